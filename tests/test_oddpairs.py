"""Promise 5: webs that are alike and no multiples."""

import unittest
from itertools import combinations, permutations
from random import Random

from stepwebs.nets import are_alike, likeness, net_of
from stepwebs.oddpairs import odd_pair, shows_odd_pair
from stepwebs.webs import are_multiples, factors, is_web, least_multiple, multiples, times, turned
from tests.samples import ANY_VALUES, BAD_WEBS, all_webs, led, outcome

EIGHT = ((8, (1, 2, 5)), (8, (1, 5, 6)))
NINE = ((9, (1, 3, 4, 7)), (9, (1, 4, 6, 7)))


def are_alike_by_hand(one, other):
    """Whether two webs are alike, by trying orders; the hall 0 may keep its place in a web."""
    rest = permutations(range(1, one[0]))
    goal = net_of(other)
    return any(led(net_of(one), (0, *order)) == goal for order in rest)


class ExamplesTest(unittest.TestCase):
    def test_example(self):
        self.assertEqual(
            [
                [halls for halls in range(2, 11) if odd_pair(halls) is not None],
                shows_odd_pair(8, ((8, (1, 2, 5)), (8, (1, 5, 6)))),
            ],
            [[8, 9], True],
        )


class OddPairTest(unittest.TestCase):
    def test_pairs_of_eight_and_nine_halls(self):
        for halls in (8, 9):
            pair = odd_pair(halls)
            self.assertIs(type(pair), tuple)
            one, other = pair
            for web in pair:
                self.assertIs(is_web(web), True)
                self.assertEqual(web[0], halls)
            self.assertNotIn(other, [times(one, factor) for factor in factors(halls)])
            order = likeness(net_of(one), net_of(other))
            self.assertEqual(sorted(order), list(range(halls)))
            self.assertEqual(led(net_of(one), order), net_of(other))
            self.assertIs(shows_odd_pair(halls, pair), True)
            self.assertIs(shows_odd_pair(halls, None), False)

    def test_no_other_pairs(self):
        for halls in (2, 3, 4, 5, 6, 7, 10):
            self.assertIsNone(odd_pair(halls))
            self.assertIs(shows_odd_pair(halls, None), True)
            for pair in (EIGHT, NINE):
                self.assertIs(shows_odd_pair(halls, pair), False)

    def test_all_webs_of_four_and_six_halls_by_all_orders(self):
        for halls in (4, 6):
            least = [web for web in all_webs(halls) if least_multiple(web) == web]
            for one, other in combinations(least, 2):
                self.assertIs(are_alike_by_hand(one, other), False)

    def test_numbers_beyond_the_limits(self):
        for halls in (-8, -1, 0, 1, 11, 12, 13, 14, 88, 10**40):
            with self.subTest(halls=halls):
                self.assertEqual(outcome(odd_pair, halls), ("BadNumber", {}))
                for value in (None, EIGHT, [], ((11, (1,)), (11, (2,)))):
                    self.assertEqual(outcome(shows_odd_pair, halls, value), ("BadNumber", {}))

    def test_no_numbers(self):
        for value in (None, True, False, "8", "", (8,), (), [8], [], {}, {8: 8}, (8, (1,)), EIGHT):
            with self.subTest(value=value):
                self.assertEqual(outcome(odd_pair, value), ("BadNumber", {}))
                for shown in (None, EIGHT, [], True):
                    self.assertEqual(outcome(shows_odd_pair, value, shown), ("BadNumber", {}))


class ShowsOddPairTest(unittest.TestCase):
    def test_the_other_pairs_of_a_pair(self):
        for one, other in (EIGHT, NINE):
            halls = one[0]
            for left in multiples(one):
                for right in multiples(other):
                    self.assertIs(shows_odd_pair(halls, (left, right)), True)
                    self.assertIs(shows_odd_pair(halls, (right, left)), True)
                    self.assertIs(shows_odd_pair(halls, (turned(left), right)), True)

    def test_pairs_of_webs_with_the_other_steps(self):
        for one, other in (EIGHT, NINE):
            halls = one[0]
            pair = tuple(
                (halls, tuple(step for step in range(1, halls) if step not in steps)) for _, steps in (one, other)
            )
            self.assertIs(shows_odd_pair(halls, pair), True)

    def test_multiples_are_no_odd_pair(self):
        for web in (*EIGHT, *NINE, (8, ()), (8, (1, 2, 3, 4, 5, 6, 7)), (9, (3, 6)), (8, (4,))):
            self.assertIs(shows_odd_pair(web[0], (web, web)), False)
            for other in multiples(web):
                self.assertIs(shows_odd_pair(web[0], (web, other)), False)

    def test_unlike_webs_are_no_odd_pair(self):
        for pair in (
            ((8, (1, 2, 5)), (8, (1, 2, 3))),
            ((8, (1, 2, 5)), (8, (1, 5))),
            ((8, ()), (8, (4,))),
            ((8, (1,)), (8, (2,))),
            ((9, (1, 3, 4, 7)), (9, (1, 2, 4, 7))),
        ):
            self.assertIs(are_alike(*map(net_of, pair)), False)
            self.assertIs(shows_odd_pair(pair[0][0], pair), False)

    def test_pairs_of_eight_halls_by_all_orders(self):
        random = Random(8)
        webs = all_webs(8)
        for _ in range(15):
            one = random.choice(webs)
            other = random.choice([web for web in webs if len(web[1]) == len(one[1])])
            odd = are_alike_by_hand(one, other) and not are_multiples(one, other)
            self.assertIs(shows_odd_pair(8, (one, other)), odd)
        self.assertIs(are_alike_by_hand(*EIGHT), True)

    def test_all_pairs_of_four_and_five_halls(self):
        for halls in (4, 5):
            for one in all_webs(halls):
                for other in all_webs(halls):
                    self.assertIs(shows_odd_pair(halls, (one, other)), False)

    def test_webs_of_another_number_of_halls(self):
        self.assertIs(shows_odd_pair(9, EIGHT), False)
        self.assertIs(shows_odd_pair(8, NINE), False)
        self.assertIs(shows_odd_pair(8, (EIGHT[0], NINE[1])), False)
        self.assertIs(shows_odd_pair(8, (NINE[0], EIGHT[1])), False)
        self.assertIs(shows_odd_pair(10, ((12, (1,)), (12, (5,)))), False)

    def test_nets_instead_of_webs(self):
        self.assertIs(shows_odd_pair(8, (net_of(EIGHT[0]), net_of(EIGHT[1]))), False)

    def test_values_of_other_kinds(self):
        one, other = EIGHT
        values = [value for value in ANY_VALUES if value is not None] + [
            list(EIGHT),
            (one,),
            (one, other, one),
            (one, other, ()),
            (one, other, None),
            one,
            one + other,
            (EIGHT,),
            (EIGHT, EIGHT),
            ((one, other), None),
            (one, None),
            (None, other),
            (list(one), other),
            (one, list(other)),
            ((8, [1, 2, 5]), other),
            (one, (8, [1, 5, 6])),
            ((8, (2, 1, 5)), other),
            ((8, (1, 2, 2, 5)), other),
            ((8, (True, 2, 5)), other),
            (one, (8, (True, 5, 6))),
            (one, (8, (1, 5, 6), ())),
            (("8", (1, 2, 5)), other),
            ("8", "8"),
            {one: other},
            {0: one, 1: other},
            (8, (1, 2, 5), 8, (1, 5, 6)),
            ((1, 2, 5), (1, 5, 6)),
            (8, ((1, 2, 5), (1, 5, 6))),
        ]
        for halls in (8, 9, 2):
            for value in values:
                with self.subTest(halls=halls, value=value):
                    self.assertIs(shows_odd_pair(halls, value), False)

    def test_no_webs_in_the_pair(self):
        for value, part in BAD_WEBS:
            with self.subTest(value=value):
                for halls in (5, 8):
                    for pair in ((value, EIGHT[1]), (EIGHT[0], value), (value, value), (value, (5, (1,)))):
                        self.assertIs(shows_odd_pair(halls, pair), False)


if __name__ == "__main__":
    unittest.main()
