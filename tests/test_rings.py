"""Promise 4: nets that are webs."""

import unittest
from itertools import permutations
from math import gcd
from random import Random

from stepwebs.nets import count_symmetries, is_even, net_of
from stepwebs.rings import ring, shows_ring, steps_along
from stepwebs.webs import times, turned
from tests.samples import (
    ANY_VALUES,
    BAD_NETS,
    GOOD_NETS,
    GOOD_WEBS,
    NO_ORDERS_OF_THREE,
    PETERSEN,
    all_nets,
    all_webs,
    circles,
    led,
    outcome,
    two_way_net,
)

# The halls are the corners, joined where their numbers differ in one binary digit.
CUBE = two_way_net(8, [(a, a ^ bit) for a in range(8) for bit in (1, 2, 4)])
# Two triangles that are gone round the other way each, and a way to and fro between them.
TWISTED_PRISM = (
    6,
    tuple(sorted([(0, 1), (1, 2), (2, 0), (3, 5), (5, 4), (4, 3)] + [(a, (a + 3) % 6) for a in range(6)])),
)
# A tetrahedron whose corners are cut off: halls are pairs of unlike corners.
CORNERS = list(permutations(range(4), 2))
CUT_TETRAHEDRON = two_way_net(
    12,
    [
        (CORNERS.index((a, b)), CORNERS.index(other))
        for a, b in CORNERS
        for other in [(b, a)] + [(a, c) for c in range(4) if c not in (a, b)]
    ],
)
EVEN_WITHOUT_RING = [CUBE, PETERSEN, TWISTED_PRISM, CUT_TETRAHEDRON]


def steps_by_hand(net, order):
    """What steps_along should give for an order of all halls, in the document's words."""
    halls, ways = net
    found = {}
    for place in range(halls):
        for further in range(1, halls):
            leads = (order[place], order[(place + further) % halls]) in ways
            if found.setdefault(further, leads) != leads:
                return None
    return tuple(further for further in range(1, halls) if found[further])


def has_ring(net):
    """Whether a net is a web along any of its orders; a ring may begin at any hall."""
    rest = range(1, net[0])
    return any(steps_by_hand(net, (0, *order)) is not None for order in permutations(rest))


def drawn_order(random, halls):
    return tuple(random.sample(range(halls), halls))


def drawn_net(random, halls):
    pairs = list(permutations(range(halls), 2))
    return halls, tuple(sorted(random.sample(pairs, random.randrange(len(pairs) + 1))))


def drawn_web(random, halls):
    return halls, tuple(step for step in range(1, halls) if random.random() < 0.5)


def regular_net(random, halls, many):
    """A net of at most so many ways from and to each hall."""
    pairs = set()
    for _ in range(many):
        order = drawn_order(random, halls)
        pairs |= {(a, b) for a, b in enumerate(order) if a != b}
    return halls, tuple(sorted(pairs))


class RingCase(unittest.TestCase):
    def check_ring(self, net, found):
        """The answers for a net of which is known whether there is a ring."""
        answer = ring(net)
        self.assertIs(answer is not None, found)
        self.assertIs(shows_ring(net, None), not found)
        if found:
            self.assertIs(type(answer), tuple)
            self.assertEqual({type(hall) for hall in answer}, {int})
            self.assertEqual(sorted(answer), list(range(net[0])))
            self.assertIsNotNone(steps_by_hand(net, answer))
            self.assertEqual(steps_along(net, answer), steps_by_hand(net, answer))
            self.assertIs(shows_ring(net, answer), True)
            self.assertIs(is_even(net), True)

    def check_order(self, net, order):
        steps = steps_by_hand(net, order)
        self.assertEqual(steps_along(net, order), steps)
        self.assertIs(shows_ring(net, order), steps is not None)


class ExamplesTest(unittest.TestCase):
    def test_example(self):
        net = (4, ((0, 2), (1, 3), (2, 1), (3, 0)))
        self.assertEqual(
            [
                steps_along(net, (0, 2, 1, 3)),
                steps_along(net, (0, 1, 2, 3)),
                shows_ring(net, (0, 3, 1, 2)),
                ring((3, ((0, 1), (0, 2)))),
            ],
            [(1,), None, True, None],
        )


class AllOrdersTest(RingCase):
    def test_all_nets_of_up_to_three_halls(self):
        for halls in (1, 2, 3):
            for net in all_nets(halls):
                self.check_ring(net, has_ring(net))
                for order in permutations(range(halls)):
                    self.check_order(net, order)

    def test_nets_of_four_halls(self):
        random = Random(4)
        for net in all_nets(4):
            self.check_ring(net, has_ring(net))
            self.check_order(net, drawn_order(random, 4))

    def test_nets_of_five_to_seven_halls(self):
        random = Random(57)
        for halls in (5, 6, 7):
            for _ in range(15):
                net = drawn_net(random, halls)
                self.check_ring(net, has_ring(net))
                for _ in range(20):
                    self.check_order(net, drawn_order(random, halls))

    def test_regular_nets_of_up_to_seven_halls(self):
        random = Random(17)
        for halls in range(2, 8):
            for many in range(1, 4):
                for _ in range(8):
                    net = regular_net(random, halls, many)
                    self.check_ring(net, has_ring(net))

    def test_all_orders_of_one_net(self):
        random = Random(6)
        for web in ((6, (1, 4)), (6, (3,)), (6, (2, 4)), (5, (1, 4)), (5, (2,))):
            net = led(net_of(web), drawn_order(random, web[0]))
            for order in permutations(range(web[0])):
                self.check_order(net, order)

    def test_webs_with_one_way_changed(self):
        random = Random(71)
        for halls in (4, 5, 6, 7):
            for _ in range(8):
                net = led(net_of(drawn_web(random, halls)), drawn_order(random, halls))
                changed = random.choice(list(permutations(range(halls), 2)))
                near = halls, tuple(sorted(set(net[1]) ^ {changed}))
                # As many ways lead from each hall of a web, so one way more or less leaves no ring.
                self.check_ring(near, False)
                self.assertIs(has_ring(near), False)


class RenamedWebsTest(RingCase):
    def test_rings_are_found(self):
        random = Random(12)
        for halls in range(2, 14):
            for _ in range(12):
                web = drawn_web(random, halls)
                self.check_ring(led(net_of(web), drawn_order(random, halls)), True)
        for web in GOOD_WEBS:
            self.check_ring(led(net_of(web), drawn_order(random, web[0])), True)

    def test_all_webs_of_few_halls(self):
        random = Random(8)
        for halls in range(2, 9):
            for web in all_webs(halls):
                self.check_ring(led(net_of(web), drawn_order(random, halls)), True)

    def test_steps_along_the_halls_as_called(self):
        random = Random(13)
        for halls in range(2, 14):
            for _ in range(12):
                web = drawn_web(random, halls)
                order = drawn_order(random, halls)
                net = led(net_of(web), order)
                self.assertEqual(steps_along(net, order), web[1])
                self.assertIs(shows_ring(net, order), True)
                self.check_order(net, drawn_order(random, halls))

    def test_ring_from_elsewhere_back_and_in_leaps(self):
        random = Random(31)
        for halls in range(2, 14):
            web = drawn_web(random, halls)
            order = drawn_order(random, halls)
            net = led(net_of(web), order)
            for first in range(halls):
                self.assertEqual(steps_along(net, order[first:] + order[:first]), web[1])
            self.assertEqual(steps_along(net, order[::-1]), turned(web)[1])
            for leap in range(1, halls):
                if gcd(leap, halls) == 1:
                    leaps = tuple(order[place * leap % halls] for place in range(halls))
                    self.assertEqual(times((halls, steps_along(net, leaps)), leap), web)

    def test_two_halls_exchanged(self):
        net = net_of((7, (1, 2)))
        self.assertEqual(steps_along(net, (0, 1, 2, 3, 4, 5, 6)), (1, 2))
        self.assertIsNone(steps_along(net, (1, 0, 2, 3, 4, 5, 6)))
        self.assertIs(shows_ring(net, (0, 1, 2, 3, 4, 6, 5)), False)


class NoWaysAndAllWaysTest(RingCase):
    def test_each_order_is_a_ring(self):
        random = Random(1)
        for halls in range(1, 14):
            void = (halls, ())
            whole = (halls, tuple(permutations(range(halls), 2)))
            order = drawn_order(random, halls)
            self.check_ring(void, True)
            self.check_ring(whole, True)
            self.assertEqual(steps_along(void, order), ())
            self.assertEqual(steps_along(whole, order), tuple(range(1, halls)))

    def test_one_hall(self):
        self.assertEqual(ring((1, ())), (0,))
        self.assertEqual(steps_along((1, ()), (0,)), ())
        self.assertIs(shows_ring((1, ()), (0,)), True)
        self.assertIs(shows_ring((1, ()), None), False)

    def test_nearly_void_nets(self):
        # Many halls that can be exchanged must not take a search through all orders.
        for halls in range(3, 14):
            self.check_ring((halls, ((0, halls - 1),)), False)
            self.check_ring(two_way_net(halls, [(0, at) for at in range(1, halls)]), False)


class EvenNetsTest(RingCase):
    def test_prime_numbers_of_halls(self):
        random = Random(235)
        for halls in (2, 3):
            for net in all_nets(halls):
                self.check_ring(net, is_even(net))
        for halls in (5, 7, 11, 13):
            for _ in range(25):
                even = led(net_of(drawn_web(random, halls)), drawn_order(random, halls))
                self.assertIs(is_even(even), True)
                self.check_ring(even, True)
                for net in (drawn_net(random, halls), regular_net(random, halls, random.randrange(1, 5))):
                    self.check_ring(net, is_even(net))

    def test_as_many_ways_at_each_hall_but_not_even(self):
        for net in (
            two_way_net(7, circles(3, 4)),
            two_way_net(13, circles(6, 7)),
            two_way_net(12, circles(3, 4, 5)),
            (11, tuple(sorted(circles(2, 9)))),
        ):
            self.assertIs(is_even(net), False)
            self.check_ring(net, False)

    def test_even_nets_without_a_ring(self):
        random = Random(88)
        for net, many in zip(EVEN_WITHOUT_RING, (48, 120, 6, 24)):
            self.assertEqual(count_symmetries(net), many)
            self.assertIs(is_even(net), True)
            for _ in range(5):
                other = led(net, drawn_order(random, net[0]))
                self.check_ring(other, False)
                for _ in range(20):
                    order = drawn_order(random, net[0])
                    self.assertIsNone(steps_along(other, order))
                    self.assertIs(shows_ring(other, order), False)

    def test_even_nets_without_a_ring_by_all_orders(self):
        self.assertIs(has_ring(TWISTED_PRISM), False)
        self.assertIs(has_ring(CUBE), False)

    def test_circles_of_one_size(self):
        for sizes in ((3, 3), (4, 4, 4), (6, 6), (2, 2, 2, 2), (3, 3, 3, 3), (5, 5)):
            halls = sum(sizes)
            self.check_ring((halls, tuple(sorted(circles(*sizes)))), True)
            self.check_ring(two_way_net(halls, circles(*sizes)), True)


class OtherValuesTest(unittest.TestCase):
    def test_no_order_of_the_halls(self):
        values = [value for value in ANY_VALUES if value is not None] + NO_ORDERS_OF_THREE
        for net in ((3, ()), (3, ((0, 1), (1, 2), (2, 0))), (3, ((0, 1),))):
            for value in values:
                with self.subTest(net=net, value=value):
                    self.assertIsNone(steps_along(net, value))
                    self.assertIs(shows_ring(net, value), False)

    def test_none(self):
        for net in GOOD_NETS + EVEN_WITHOUT_RING:
            self.assertIsNone(steps_along(net, None))
            self.assertIs(shows_ring(net, None), ring(net) is None)

    def test_order_of_a_net_without_a_ring(self):
        for order in permutations(range(3)):
            self.assertIsNone(steps_along((3, ((0, 1), (0, 2))), order))
            self.assertIs(shows_ring((3, ((0, 1), (0, 2))), order), False)

    def test_steps_are_no_ring(self):
        self.assertIs(shows_ring((2, ((0, 1), (1, 0))), (1,)), False)
        self.assertIs(shows_ring((2, ((0, 1), (1, 0))), (2, (1,))), False)


class BadNetTest(unittest.TestCase):
    def test_no_nets(self):
        for value, part in BAD_NETS:
            with self.subTest(value=value):
                self.assertEqual(outcome(ring, value), ("BadNet", {"part": part}))
        for value in ANY_VALUES:
            self.assertEqual(outcome(ring, value)[0], "BadNet")

    def test_net_comes_before_the_order(self):
        for function in (steps_along, shows_ring):
            for value, part in BAD_NETS:
                for order in (None, (0, 1, 2), (0,), (), [], "012", True):
                    with self.subTest(function=function.__name__, value=value, order=order):
                        self.assertEqual(outcome(function, value, order), ("BadNet", {"part": part}))
            for value in ANY_VALUES:
                self.assertEqual(outcome(function, value, value)[0], "BadNet")


if __name__ == "__main__":
    unittest.main()
