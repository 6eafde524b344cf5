"""Promise 6: how many unlike webs there are, and the least ones."""

import unittest
from itertools import combinations
from math import comb, gcd

from stepwebs.counts import count_two_way, count_webs, count_with, least_webs
from stepwebs.errors import NotPrime
from stepwebs.nets import are_alike, net_of
from stepwebs.webs import are_multiples, is_two_way, least_multiple, multiples
from tests.samples import ANY_VALUES, all_webs, outcome

PRIMES = (2, 3, 5, 7, 11, 13, 17, 19, 23, 29, 31, 37, 41, 43, 47, 53, 59, 61)
SMALL_PRIMES = (2, 3, 5, 7, 11, 13)
NO_PRIMES = tuple(number for number in range(2, 62) if number not in PRIMES)
NO_NUMBERS = [value for value in ANY_VALUES if value not in (3, 14)] + [
    -61, 62, 63, 67, 71, 97, 113, "7", "61", (7,), (7, (1,)), [7], {7: 7},
]


def turned_choices(places):
    """The sum that the promise tells, with so many in the place of p - 1."""
    total = 0
    for divisor in range(1, places + 1):
        if places % divisor == 0:
            free = [number for number in range(1, divisor + 1) if gcd(number, divisor) == 1]
            total += len(free) * 2 ** (places // divisor)
    assert total % places == 0
    return total // places


def circles_of(halls, factor):
    """The lengths of the circles in which a factor leads the steps."""
    lengths = []
    left = set(range(1, halls))
    while left:
        first = step = min(left)
        length = 0
        while step in left:
            left.remove(step)
            length += 1
            step = step * factor % halls
        assert step == first
        lengths.append(length)
    return lengths


def counts_by_circles(halls):
    """How many unlike webs have 0, 1, .. steps: what a factor keeps on average."""
    totals = [0] * halls
    for factor in range(1, halls):
        kept = [1] + [0] * (halls - 1)
        for length in circles_of(halls, factor):
            for many in range(halls - 1, length - 1, -1):
                kept[many] += kept[many - length]
        totals = [total + more for total, more in zip(totals, kept)]
    assert all(total % (halls - 1) == 0 for total in totals)
    return [total // (halls - 1) for total in totals]


def unlike_webs(halls):
    """One web of each set of multiples, by going through all webs."""
    seen = set()
    chosen = []
    for _, steps in all_webs(halls):
        if steps not in seen:
            chosen.append((halls, steps))
            for factor in range(1, halls):
                if gcd(factor, halls) == 1:
                    seen.add(tuple(sorted(step * factor % halls for step in steps)))
    return chosen


class ExamplesTest(unittest.TestCase):
    def test_example(self):
        self.assertEqual(
            [count_webs(13), count_two_way(13), [count_with(7, many) for many in range(7)], least_webs(3)],
            [352, 14, [1, 1, 3, 4, 3, 1, 1], ((3, ()), (3, (1,)), (3, (1, 2)))],
        )

    def test_no_prime(self):
        with self.assertRaises(NotPrime) as caught:
            count_webs(9)
        self.assertEqual(vars(caught.exception), {})


class CountWebsTest(unittest.TestCase):
    def test_written_out(self):
        found = [count_webs(halls) for halls in (2, 3, 5, 7, 11, 13, 17, 19, 23)]
        self.assertEqual(found, [2, 3, 6, 14, 108, 352, 4116, 14602, 190746])

    def test_all_webs_of_few_halls(self):
        for halls in SMALL_PRIMES:
            self.assertEqual(count_webs(halls), len(unlike_webs(halls)))

    def test_alike_webs_are_counted_once(self):
        for halls in (2, 3, 5, 7):
            chosen = []
            for web in all_webs(halls):
                if not any(are_alike(net_of(web), net_of(other)) for other in chosen):
                    chosen.append(web)
            self.assertEqual(count_webs(halls), len(chosen))

    def test_sum_for_all_primes(self):
        for halls in PRIMES:
            many = count_webs(halls)
            self.assertIs(type(many), int)
            self.assertEqual(many, turned_choices(halls - 1))
            self.assertEqual(many, sum(counts_by_circles(halls)))


class CountWithTest(unittest.TestCase):
    def test_written_out(self):
        self.assertEqual([count_with(2, many) for many in range(2)], [1, 1])
        self.assertEqual([count_with(3, many) for many in range(3)], [1, 1, 1])
        self.assertEqual([count_with(5, many) for many in range(5)], [1, 1, 2, 1, 1])
        self.assertEqual([count_with(11, many) for many in range(11)], [1, 1, 5, 12, 22, 26, 22, 12, 5, 1, 1])

    def test_all_webs_of_few_halls(self):
        for halls in SMALL_PRIMES:
            chosen = unlike_webs(halls)
            for many in range(halls):
                self.assertEqual(count_with(halls, many), len([web for web in chosen if len(web[1]) == many]))

    def test_all_primes(self):
        for halls in PRIMES:
            found = [count_with(halls, many) for many in range(halls)]
            self.assertTrue(all(type(many) is int for many in found))
            self.assertEqual(found, counts_by_circles(halls))
            self.assertEqual(found, found[::-1])
            self.assertEqual(sum(found), count_webs(halls))

    def test_least_and_most_steps(self):
        for halls in PRIMES:
            self.assertEqual([count_with(halls, many) for many in (0, 1, halls - 2, halls - 1)], [1, 1, 1, 1])
            for many in (-1, halls, halls + 1, -halls, 10**40, -(10**40)):
                self.assertEqual(outcome(count_with, halls, many), ("BadNumber", {}))

    def test_exact_for_many_halls(self):
        # No factor but 1 keeps webs of 7 steps, for 7 has no divisor but 1 with 60.
        self.assertEqual(count_with(61, 7), comb(60, 7) // 60)
        self.assertEqual(count_with(61, 29), comb(60, 29) // 60)

    def test_no_integer(self):
        for value in (None, True, False, "1", "", (1,), (), [1], [], {}, {1: 1}):
            with self.subTest(value=value):
                for halls in (2, 5, 61):
                    self.assertEqual(outcome(count_with, halls, value), ("BadNumber", {}))


class CountTwoWayTest(unittest.TestCase):
    def test_written_out(self):
        found = [count_two_way(halls) for halls in (2, 3, 5, 7, 11, 13, 17, 19, 23)]
        self.assertEqual(found, [2, 2, 3, 4, 8, 14, 36, 60, 188])

    def test_all_webs_of_few_halls(self):
        for halls in SMALL_PRIMES:
            chosen = [web for web in unlike_webs(halls) if is_two_way(web)]
            self.assertEqual(count_two_way(halls), len(chosen))

    def test_sum_for_all_primes(self):
        for halls in PRIMES[1:]:
            many = count_two_way(halls)
            self.assertIs(type(many), int)
            self.assertEqual(many, turned_choices((halls - 1) // 2))


class LeastWebsTest(unittest.TestCase):
    def test_written_out(self):
        self.assertEqual(least_webs(2), ((2, ()), (2, (1,))))
        self.assertEqual(
            least_webs(4),
            ((4, ()), (4, (1,)), (4, (1, 2)), (4, (1, 2, 3)), (4, (1, 3)), (4, (2,))),
        )
        self.assertEqual(
            least_webs(5),
            ((5, ()), (5, (1,)), (5, (1, 2)), (5, (1, 2, 3)), (5, (1, 2, 3, 4)), (5, (1, 4))),
        )

    def test_all_numbers_of_halls(self):
        for halls in range(2, 12):
            found = least_webs(halls)
            self.assertIs(type(found), tuple)
            self.assertEqual(list(found), sorted(set(found)))
            self.assertEqual(list(found), sorted(web for web in all_webs(halls) if least_multiple(web) == web))
            self.assertEqual(len(found), len(unlike_webs(halls)))

    def test_each_web_is_a_multiple_of_just_one(self):
        for halls in range(2, 12):
            reached = [other for web in least_webs(halls) for other in multiples(web)]
            self.assertEqual(sorted(reached), sorted(all_webs(halls)))

    def test_least_webs_are_no_multiples(self):
        for halls in (6, 7, 8):
            for one, other in combinations(least_webs(halls), 2):
                self.assertIs(are_multiples(one, other), False)

    def test_as_many_as_are_counted(self):
        for halls in (2, 3, 5, 7, 11):
            found = least_webs(halls)
            self.assertEqual(len(found), count_webs(halls))
            self.assertEqual(len([web for web in found if is_two_way(web)]), count_two_way(halls))
            for many in range(halls):
                self.assertEqual(len([web for web in found if len(web[1]) == many]), count_with(halls, many))

    def test_beyond_the_limits(self):
        for halls in (-11, -1, 0, 1, 12, 13, 14, 61, 10**40):
            with self.subTest(halls=halls):
                self.assertEqual(outcome(least_webs, halls), ("BadNumber", {}))

    def test_no_numbers(self):
        for value in (None, True, False, "3", "", (3,), (), [3], [], {}, {3: 3}, (3, (1,))):
            with self.subTest(value=value):
                self.assertEqual(outcome(least_webs, value), ("BadNumber", {}))


class HallsTest(unittest.TestCase):
    def test_no_integers_from_2_to_61(self):
        for value in NO_NUMBERS:
            with self.subTest(value=value):
                self.assertEqual(outcome(count_webs, value), ("BadNumber", {}))
                self.assertEqual(outcome(count_two_way, value), ("BadNumber", {}))
                for many in (0, -1, None):
                    self.assertEqual(outcome(count_with, value, many), ("BadNumber", {}))

    def test_no_primes(self):
        self.assertTrue({4, 9, 49, 51, 57, 60} <= set(NO_PRIMES))
        for halls in NO_PRIMES:
            with self.subTest(halls=halls):
                self.assertEqual(outcome(count_webs, halls), ("NotPrime", {}))
                self.assertEqual(outcome(count_two_way, halls), ("NotPrime", {}))

    def test_halls_come_before_many(self):
        for halls in NO_PRIMES:
            for many in (0, 1, halls - 1, -1, halls, None, True, "1"):
                self.assertEqual(outcome(count_with, halls, many), ("NotPrime", {}))

    def test_least_webs_are_for_no_primes_too(self):
        for halls in (4, 6, 8, 9, 10):
            self.assertEqual(outcome(least_webs, halls)[0], "value")


if __name__ == "__main__":
    unittest.main()
