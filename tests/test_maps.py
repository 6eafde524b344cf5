"""Promise 7: the symmetries of webs, and those that multiply by a factor and add a number."""

import unittest
from itertools import permutations
from math import factorial, gcd
from random import Random

from stepwebs.maps import count_plain, is_plain, keepers, symmetries
from stepwebs.nets import count_symmetries, net_of
from stepwebs.webs import times
from tests.samples import ANY_VALUES, BAD_WEBS, GOOD_WEBS, all_webs, led, outcome

PRIMES = (2, 3, 5, 7, 11, 13)
OTHERS = (4, 6, 8, 9, 10, 12)


def whole_web(halls):
    return halls, tuple(range(1, halls))


def drawn_webs(random, halls, many):
    return [(halls, tuple(step for step in range(1, halls) if random.random() < 0.5)) for _ in range(many)]


def factors_by_hand(halls):
    return [number for number in range(1, halls) if gcd(number, halls) == 1]


def keepers_by_hand(web):
    halls, steps = web
    return tuple(a for a in factors_by_hand(halls) if {a * step % halls for step in steps} == set(steps))


def plain_by_hand(web):
    """The orders to which a factor and a number lead the halls, if they are symmetries."""
    halls = web[0]
    orders = {tuple((a * h + b) % halls for h in range(halls)) for a in factors_by_hand(halls) for b in range(halls)}
    return {order for order in orders if led(net_of(web), order) == net_of(web)}


def symmetries_by_hand(web):
    net = net_of(web)
    return {order for order in permutations(range(web[0])) if led(net, order) == net}


class ExamplesTest(unittest.TestCase):
    def test_example(self):
        self.assertEqual(
            [
                keepers((7, (1, 2, 4))),
                symmetries((7, (1, 2, 4))),
                count_plain((6, (3,))),
                is_plain((6, (3,))),
                symmetries((5, ())),
            ],
            [(1, 2, 4), 21, 12, False, 120],
        )


class KeepersTest(unittest.TestCase):
    def test_written_out(self):
        self.assertEqual(keepers((2, (1,))), (1,))
        self.assertEqual(keepers((8, (1, 2, 5))), (1, 5))
        self.assertEqual(keepers((9, (3,))), (1, 4, 7))
        self.assertEqual(keepers((12, (1, 11))), (1, 11))
        self.assertEqual(keepers((13, (1, 3, 9))), (1, 3, 9))
        self.assertEqual(keepers((13, (1, 2, 4))), (1,))

    def test_all_webs_of_up_to_ten_halls(self):
        for halls in range(2, 11):
            for web in all_webs(halls):
                found = keepers(web)
                self.assertIs(type(found), tuple)
                self.assertEqual(found, keepers_by_hand(web))
                for factor in found:
                    self.assertEqual(times(web, factor), web)

    def test_webs_of_many_halls(self):
        random = Random(1)
        for halls in (11, 12, 13):
            for web in drawn_webs(random, halls, 40):
                self.assertEqual(keepers(web), keepers_by_hand(web))

    def test_without_a_step_and_with_all_steps(self):
        for halls in range(2, 14):
            self.assertEqual(keepers((halls, ())), tuple(factors_by_hand(halls)))
            self.assertEqual(keepers(whole_web(halls)), tuple(factors_by_hand(halls)))


class CountPlainTest(unittest.TestCase):
    def test_written_out(self):
        self.assertEqual(count_plain((2, ())), 2)
        self.assertEqual(count_plain((4, ())), 8)
        self.assertEqual(count_plain((4, (1,))), 4)
        self.assertEqual(count_plain((8, (1, 2, 5))), 16)
        self.assertEqual(count_plain((13, (1, 3, 9))), 39)
        self.assertEqual(count_plain((13, ())), 156)

    def test_all_webs_of_up_to_eight_halls(self):
        for halls in range(2, 9):
            for web in all_webs(halls):
                self.assertEqual(count_plain(web), len(plain_by_hand(web)))

    def test_webs_of_many_halls(self):
        random = Random(2)
        for halls in range(9, 14):
            for web in drawn_webs(random, halls, 12) + [(halls, ()), whole_web(halls)]:
                many = count_plain(web)
                self.assertIs(type(many), int)
                self.assertEqual(many, len(plain_by_hand(web)))
                self.assertEqual(many, halls * len(keepers(web)))


class IsPlainTest(unittest.TestCase):
    def test_written_out(self):
        for web in ((2, ()), (2, (1,)), (3, ()), (3, (1,)), (3, (1, 2)), (4, (1,)), (4, (2,)), (6, (1, 5))):
            self.assertIs(is_plain(web), True)
        for web in ((4, ()), (4, (1, 2, 3)), (6, (3,)), (6, (2, 4)), (5, ()), (5, (1, 2, 3, 4)), (12, (6,))):
            self.assertIs(is_plain(web), False)

    def test_all_webs_of_up_to_six_halls_by_all_orders(self):
        for halls in range(2, 7):
            for web in all_webs(halls):
                self.assertIs(is_plain(web), symmetries_by_hand(web) == plain_by_hand(web))

    def test_webs_of_more_halls(self):
        random = Random(3)
        for halls in (7, 8):
            for web in drawn_webs(random, halls, 5):
                self.assertIs(is_plain(web), symmetries_by_hand(web) == plain_by_hand(web))
        for halls in (9, 10, 12):
            for web in drawn_webs(random, halls, 12) + [(halls, ()), whole_web(halls)]:
                self.assertIs(is_plain(web), count_symmetries(net_of(web)) == len(plain_by_hand(web)))

    def test_all_webs_of_two_and_three_halls(self):
        for halls in (2, 3):
            for web in all_webs(halls):
                self.assertIs(is_plain(web), True)

    def test_prime_numbers_of_halls_from_five(self):
        random = Random(5)
        webs = all_webs(5) + all_webs(7) + [web for web in GOOD_WEBS if web[0] == 13]
        for halls in (11, 13):
            webs += drawn_webs(random, halls, 60) + [(halls, ()), whole_web(halls)]
            webs += [(halls, (1,)), (halls, (1, halls - 1)), (halls, tuple(range(2, halls)))]
        for web in webs:
            halls, steps = web
            self.assertIs(is_plain(web), 0 < len(steps) < halls - 1)


class SymmetriesTest(unittest.TestCase):
    def test_without_a_step_and_with_all_steps(self):
        for halls in PRIMES:
            self.assertEqual(symmetries((halls, ())), factorial(halls))
            self.assertEqual(symmetries(whole_web(halls)), factorial(halls))

    def test_by_all_orders(self):
        random = Random(7)
        for web in all_webs(2) + all_webs(3) + all_webs(5) + drawn_webs(random, 7, 10):
            self.assertEqual(symmetries(web), len(symmetries_by_hand(web)))

    def test_plain_ones_alone(self):
        random = Random(11)
        for halls in (5, 7, 11, 13):
            for web in drawn_webs(random, halls, 40):
                if 0 < len(web[1]) < halls - 1:
                    many = symmetries(web)
                    self.assertIs(type(many), int)
                    self.assertEqual(many, halls * len(keepers_by_hand(web)))

    def test_no_prime(self):
        for halls in OTHERS:
            for web in [(halls, ()), (halls, (1,)), (halls, (1, halls - 1)), whole_web(halls)]:
                with self.subTest(web=web):
                    self.assertEqual(outcome(symmetries, web), ("NotPrime", {}))

    def test_other_functions_take_any_number_of_halls(self):
        for halls in OTHERS:
            web = (halls, (1,))
            self.assertEqual([keepers(web), count_plain(web), is_plain(web)], [(1,), halls, True])


class BadWebTest(unittest.TestCase):
    def test_no_webs(self):
        for function in (keepers, count_plain, is_plain, symmetries):
            for value, part in BAD_WEBS:
                with self.subTest(function=function.__name__, value=value):
                    self.assertEqual(outcome(function, value), ("BadWeb", {"part": part}))
            for value in ANY_VALUES:
                with self.subTest(function=function.__name__, value=value):
                    self.assertEqual(outcome(function, value)[0], "BadWeb")

    def test_bad_web_comes_before_no_prime(self):
        for steps in ((2, 1), (0,), (4,), [1], None, (True,)):
            self.assertEqual(outcome(symmetries, (4, steps)), ("BadWeb", {"part": "steps"}))
        for halls in (1, 0, 14, 15, True, "4"):
            self.assertEqual(outcome(symmetries, (halls, ())), ("BadWeb", {"part": "halls"}))


if __name__ == "__main__":
    unittest.main()
