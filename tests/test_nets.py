"""Promise 3: nets, likenesses and symmetries."""

import unittest
from itertools import permutations
from math import factorial

from stepwebs.errors import BadNet, Unlike
from stepwebs.nets import are_alike, count_symmetries, is_even, is_net, likeness, net_of, shows_likeness
from tests.samples import (
    ANY_VALUES,
    BAD_NETS,
    BAD_WEBS,
    GOOD_NETS,
    GOOD_WEBS,
    NO_ORDERS_OF_THREE,
    PETERSEN,
    all_nets,
    all_webs,
    circles,
    led,
    likenesses,
    mixed,
    outcome,
    two_way_net,
)

STAR = (3, ((0, 1), (0, 2)))
FRUCHT = two_way_net(
    12,
    circles(7) + [(0, 7), (1, 7), (2, 8), (3, 9), (4, 9), (5, 10), (6, 10), (7, 11), (8, 11), (8, 9), (10, 11)],
)


class ExamplesTest(unittest.TestCase):
    def test_first_example(self):
        star = (3, ((0, 1), (0, 2)))
        self.assertEqual(
            [
                count_symmetries(star),
                is_even(star),
                shows_likeness(star, star, (0, 2, 1)),
                are_alike(net_of((8, (1, 2, 5))), net_of((8, (1, 5, 6)))),
            ],
            [2, False, True, True],
        )

    def test_second_example(self):
        self.assertEqual(
            [net_of((3, (1,))), likeness((3, ((0, 1), (0, 2))), (3, ((0, 1), (1, 2))))],
            [(3, ((0, 1), (1, 2), (2, 0))), None],
        )

    def test_third_example(self):
        with self.assertRaises(BadNet) as caught:
            is_even((2, ((0, 0),)))
        self.assertEqual(caught.exception.part, "ways")


class IsNetTest(unittest.TestCase):
    def test_nets(self):
        for value in GOOD_NETS + all_nets(3) + [PETERSEN, FRUCHT]:
            self.assertIs(is_net(value), True)

    def test_least_and_most_halls(self):
        found = [halls for halls in range(-3, 20) if is_net((halls, ()))]
        self.assertEqual(found, list(range(1, 14)))

    def test_which_ways_there_are(self):
        for halls in range(1, 14):
            halls_and_some = range(-2, halls + 3)
            found = [(a, b) for a in halls_and_some for b in halls_and_some if is_net((halls, ((a, b),)))]
            self.assertEqual(found, list(permutations(range(halls), 2)))

    def test_no_nets(self):
        for value, part in BAD_NETS:
            with self.subTest(value=value):
                self.assertIs(is_net(value), False)

    def test_any_values(self):
        for value in ANY_VALUES:
            with self.subTest(value=value):
                self.assertIs(is_net(value), False)


class BadNetTest(unittest.TestCase):
    def test_each_function_of_one_net(self):
        for function in (count_symmetries, is_even):
            for value, part in BAD_NETS:
                with self.subTest(function=function.__name__, value=value):
                    self.assertEqual(outcome(function, value), ("BadNet", {"part": part}))
            for value in ANY_VALUES:
                with self.subTest(function=function.__name__, value=value):
                    self.assertEqual(outcome(function, value)[0], "BadNet")

    def test_left_net_comes_first(self):
        for function in (likeness, are_alike):
            for value, part in BAD_NETS:
                with self.subTest(function=function.__name__, value=value):
                    for other in ((3, ()), None, (14, ()), (3, [1]), value):
                        self.assertEqual(outcome(function, value, other), ("BadNet", {"part": part}))

    def test_right_net_comes_before_unlike(self):
        for function in (likeness, are_alike):
            for value, part in BAD_NETS:
                with self.subTest(function=function.__name__, value=value):
                    self.assertEqual(outcome(function, (3, ()), value), ("BadNet", {"part": part}))
                    self.assertEqual(outcome(function, (13, ()), value), ("BadNet", {"part": part}))

    def test_nets_of_shows_likeness(self):
        for value, part in BAD_NETS:
            with self.subTest(value=value):
                wrong = ("BadNet", {"part": part})
                self.assertEqual(outcome(shows_likeness, value, None, None), wrong)
                self.assertEqual(outcome(shows_likeness, value, (3, ()), (0, 1, 2)), wrong)
                self.assertEqual(outcome(shows_likeness, (3, ()), value, [None]), wrong)
                self.assertEqual(outcome(shows_likeness, (13, ()), value, (0, 1, 2)), wrong)

    def test_unlike_numbers_of_halls(self):
        for one, other in (((2, ()), (3, ())), ((13, ()), (1, ())), ((1, ()), (13, ()))):
            self.assertRaises(Unlike, likeness, one, other)
            self.assertRaises(Unlike, are_alike, one, other)
            for value in ANY_VALUES:
                self.assertRaises(Unlike, shows_likeness, one, other, value)


class NetOfTest(unittest.TestCase):
    def test_written_out(self):
        self.assertEqual(net_of((2, (1,))), (2, ((0, 1), (1, 0))))
        self.assertEqual(net_of((13, ())), (13, ()))
        self.assertEqual(net_of((4, (2,))), (4, ((0, 2), (1, 3), (2, 0), (3, 1))))

    def test_is_a_net_of_the_ways(self):
        for web in GOOD_WEBS + all_webs(6):
            halls, steps = web
            net = net_of(web)
            self.assertIs(is_net(net), True)
            pairs = [(a, b) for a in range(halls) for b in range(halls) if (b + halls - a) % halls in steps]
            self.assertEqual(net, (halls, tuple(pairs)))

    def test_no_web(self):
        for value, part in BAD_WEBS:
            with self.subTest(value=value):
                self.assertEqual(outcome(net_of, value), ("BadWeb", {"part": part}))
        for value in ANY_VALUES:
            self.assertEqual(outcome(net_of, value)[0], "BadWeb")


class LikenessAgainstAllOrdersTest(unittest.TestCase):
    def check_pair(self, one, other):
        found = likenesses(one, other)
        answer = likeness(one, other)
        self.assertIs(are_alike(one, other), found != [])
        self.assertIs(shows_likeness(one, other, None), found == [])
        if found == []:
            self.assertIsNone(answer)
        else:
            self.assertIn(answer, found)
            self.assertEqual({type(hall) for hall in answer}, {int})
        for order in permutations(range(one[0])):
            self.assertIs(shows_likeness(one, other, order), order in found)

    def test_all_pairs_up_to_three_halls(self):
        for halls in (1, 2, 3):
            for one in all_nets(halls):
                for other in all_nets(halls):
                    self.check_pair(one, other)

    def test_pairs_of_four_halls(self):
        nets = all_nets(4)
        for at in range(0, len(nets), 11):
            self.check_pair(nets[at], nets[at * 7 % len(nets)])
            self.check_pair(nets[at], led(nets[at], mixed(4, at)))

    def test_kinds_of_four_halls(self):
        # 218 nets of four halls are unlike, of three 16 (Harary's count of digraphs).
        for halls, many in ((1, 1), (2, 3), (3, 16), (4, 218)):
            kinds = {}
            for net in all_nets(halls):
                least = min(led(net, order) for order in permutations(range(halls)))
                kinds.setdefault(least, net)
            self.assertEqual(len(kinds), many)
            for least, net in kinds.items():
                for other in kinds.values():
                    self.assertIs(are_alike(least, other), net == other)

    def test_pairs_of_five_halls(self):
        pairs = list(permutations(range(5), 2))
        for seed in range(40):
            chosen = mixed(20, seed)[: seed % 20]
            one = (5, tuple(sorted(pairs[at] for at in chosen)))
            self.check_pair(one, led(one, mixed(5, seed + 1)))
            others = mixed(20, seed + 100)[: seed % 20]
            self.check_pair(one, (5, tuple(sorted(pairs[at] for at in others))))

    def test_symmetries_of_all_nets_of_four_halls(self):
        for halls in (1, 2, 3, 4):
            for net in all_nets(halls):
                found = [order for order in permutations(range(halls)) if led(net, order) == net]
                self.assertEqual(count_symmetries(net), len(found))
                even = all(any(order[a] == b for order in found) for a in range(halls) for b in range(halls))
                self.assertIs(is_even(net), even)

    def test_symmetries_of_nets_of_six_halls(self):
        nets = [
            two_way_net(6, circles(6)),
            two_way_net(6, circles(3, 3)),
            (6, tuple(sorted(circles(6)))),
            (6, tuple(sorted(circles(2, 4)))),
            (6, tuple(sorted(circles(2, 2, 2)))),
            two_way_net(6, [(0, 1), (1, 2), (2, 3), (3, 4), (4, 5)]),
            net_of((6, (1, 2))),
            net_of((6, (2, 3))),
        ]
        for net in nets:
            found = [order for order in permutations(range(6)) if led(net, order) == net]
            self.assertEqual(count_symmetries(net), len(found))
            self.assertIs(is_even(net), {order[0] for order in found} == set(range(6)))
            for other in nets:
                self.assertIs(are_alike(net, other), net == other)


class LikenessOfManyHallsTest(unittest.TestCase):
    def test_nets_under_other_names(self):
        nets = [PETERSEN, FRUCHT, (13, ()), two_way_net(13, circles(6, 7)), two_way_net(13, circles(3, 3, 3, 4))]
        nets += [net_of(web) for web in GOOD_WEBS]
        for at, net in enumerate(nets):
            for seed in range(5):
                other = led(net, mixed(net[0], seed * 31 + at))
                answer = likeness(net, other)
                self.assertIsNotNone(answer)
                self.assertEqual(sorted(answer), list(range(net[0])))
                self.assertEqual(led(net, answer), other)
                self.assertIs(are_alike(net, other), True)
                self.assertIs(shows_likeness(net, other, answer), True)
                self.assertIs(shows_likeness(net, other, None), False)

    def test_unlike_nets_with_as_many_ways_at_each_hall(self):
        unlike = [
            (two_way_net(13, circles(13)), two_way_net(13, circles(6, 7))),
            (two_way_net(13, circles(3, 10)), two_way_net(13, circles(6, 7))),
            (two_way_net(12, circles(3, 3, 6)), two_way_net(12, circles(4, 4, 4))),
            ((13, tuple(sorted(circles(2, 2, 9)))), (13, tuple(sorted(circles(2, 3, 8))))),
            (PETERSEN, two_way_net(10, circles(5) + [(5 + a, 5 + (a + 1) % 5) for a in range(5)] + [
                (a, a + 5) for a in range(5)
            ])),
            (net_of((13, (1, 3, 9))), net_of((13, (1, 3, 4)))),
            (net_of((12, (1,))), net_of((12, (6,)))),
        ]
        for one, other in unlike:
            self.assertEqual(len(one[1]), len(other[1]))
            self.assertIsNone(likeness(one, other))
            self.assertIsNone(likeness(other, one))
            self.assertIs(are_alike(one, other), False)
            self.assertIs(shows_likeness(one, other, None), True)

    def test_void_net_and_nearly_void_net(self):
        # Many halls that can be exchanged must not take a search through all orders.
        self.assertIs(are_alike((13, ()), (13, ((3, 7),))), False)
        self.assertIs(are_alike((13, ((3, 7),)), (13, ())), False)
        self.assertIs(are_alike((13, ((3, 7),)), (13, ((12, 0),))), True)
        self.assertIs(are_alike((13, ((3, 7), (4, 7))), (13, ((0, 1), (0, 2)))), False)

    def test_direction_counts(self):
        self.assertIs(are_alike((2, ((0, 1),)), (2, ((1, 0),))), True)
        self.assertIs(are_alike(STAR, (3, ((1, 0), (2, 0)))), False)
        self.assertIs(are_alike(net_of((7, (1, 2, 4))), net_of((7, (3, 5, 6)))), True)


class ShowsLikenessTest(unittest.TestCase):
    def test_which_way_it_leads(self):
        one = (3, ((0, 1), (1, 2)))
        other = (3, ((1, 2), (2, 0)))
        self.assertIs(shows_likeness(one, other, (1, 2, 0)), True)
        self.assertIs(shows_likeness(one, other, (2, 0, 1)), False)

    def test_ways_are_not_enough(self):
        # All ways of the first net are led to ways, but the second one has more of them.
        self.assertIs(shows_likeness((3, ((0, 1),)), STAR, (0, 1, 2)), False)
        self.assertIs(shows_likeness(STAR, (3, ((0, 1),)), (0, 1, 2)), False)

    def test_none(self):
        self.assertIs(shows_likeness(STAR, STAR, None), False)
        self.assertIs(shows_likeness(STAR, (3, ()), None), True)

    def test_no_order_of_the_halls(self):
        void = (3, ())
        for value in ANY_VALUES + NO_ORDERS_OF_THREE:
            with self.subTest(value=value):
                self.assertIs(shows_likeness(void, void, value), False)
        self.assertIs(shows_likeness((1, ()), (1, ()), (False,)), False)
        self.assertIs(shows_likeness((2, ()), (2, ()), (False, True)), False)

    def test_order_where_there_is_no_likeness(self):
        for order in permutations(range(3)):
            self.assertIs(shows_likeness(STAR, (3, ((0, 1), (1, 2))), order), False)

    def test_one_hall(self):
        one = (1, ())
        self.assertEqual(likeness(one, one), (0,))
        self.assertIs(shows_likeness(one, one, (0,)), True)
        self.assertIs(shows_likeness(one, one, ()), False)
        self.assertIs(shows_likeness(one, one, 0), False)


class SymmetriesTest(unittest.TestCase):
    def test_without_ways_and_with_all_ways(self):
        for halls in range(1, 14):
            for net in ((halls, ()), (halls, tuple(permutations(range(halls), 2)))):
                self.assertEqual(count_symmetries(net), factorial(halls))
                self.assertIs(is_even(net), True)

    def test_circles(self):
        for halls in range(3, 14):
            self.assertEqual(count_symmetries(net_of((halls, (1,)))), halls)
            self.assertEqual(count_symmetries(net_of((halls, (1, halls - 1)))), 2 * halls)

    def test_known_nets(self):
        known = [
            (PETERSEN, 120, True),
            (FRUCHT, 1, False),
            (net_of((7, (1, 2, 4))), 21, True),
            (net_of((13, (1, 3, 4, 9, 10, 12))), 78, True),
            (net_of((13, (1, 3, 9))), 39, True),
            (net_of((6, (3,))), 48, True),
            (net_of((8, (4,))), 384, True),
            (net_of((12, (6,))), 46080, True),
            (net_of((12, (2, 4, 6, 8, 10))), 2 * factorial(6) ** 2, True),
            (two_way_net(6, circles(3, 3)), 72, True),
            (two_way_net(7, circles(3, 4)), 48, False),
            (two_way_net(13, circles(3, 3, 3, 4)), 6**3 * 6 * 8, False),
            (two_way_net(13, [(0, at) for at in range(1, 13)]), factorial(12), False),
            (two_way_net(13, [(a, b) for a in range(6) for b in range(6, 13)]), factorial(6) * factorial(7), False),
            ((13, tuple((a, b) for a in range(13) for b in range(a + 1, 13))), 1, False),
            ((2, ((0, 1),)), 1, False),
        ]
        for net, many, even in known:
            with self.subTest(net=net):
                self.assertIs(type(count_symmetries(net)), int)
                self.assertEqual(count_symmetries(net), many)
                self.assertIs(is_even(net), even)
                other = led(net, mixed(net[0], 5))
                self.assertEqual(count_symmetries(other), many)
                self.assertIs(is_even(other), even)

    def test_webs_are_even(self):
        for halls in range(2, 9):
            for web in all_webs(halls):
                self.assertIs(is_even(net_of(web)), True)


if __name__ == "__main__":
    unittest.main()
