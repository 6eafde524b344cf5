"""Promise 2: webs and their multiples."""

import unittest

from stepwebs.errors import BadWeb, Unlike
from stepwebs.webs import are_multiples, factors, is_two_way, is_web, least_multiple, multiples, times, turned, ways
from tests.samples import ANY_VALUES, BAD_NETS, BAD_WEBS, GOOD_WEBS, all_webs, outcome

# The numbers that have no divisor but 1 with the number of halls, written out.
FACTORS = {
    2: (1,),
    3: (1, 2),
    4: (1, 3),
    5: (1, 2, 3, 4),
    6: (1, 5),
    7: (1, 2, 3, 4, 5, 6),
    8: (1, 3, 5, 7),
    9: (1, 2, 4, 5, 7, 8),
    10: (1, 3, 7, 9),
    11: (1, 2, 3, 4, 5, 6, 7, 8, 9, 10),
    12: (1, 5, 7, 11),
    13: (1, 2, 3, 4, 5, 6, 7, 8, 9, 10, 11, 12),
}


class ExamplesTest(unittest.TestCase):
    def test_first_example(self):
        self.assertEqual(
            [times((7, (1, 2, 4)), 3), turned((7, (1, 2, 4))), multiples((5, (1, 4))), factors(8), ways((3, (1,)))],
            [
                (7, (3, 5, 6)),
                (7, (3, 5, 6)),
                ((5, (1, 4)), (5, (2, 3))),
                (1, 3, 5, 7),
                ((0, 1), (1, 2), (2, 0)),
            ],
        )

    def test_second_example(self):
        self.assertEqual(
            [are_multiples((8, (1, 2, 5)), (8, (1, 5, 6))), is_two_way((4, (1, 3))), least_multiple((5, (2, 3)))],
            [False, True, (5, (1, 4))],
        )

    def test_third_example(self):
        with self.assertRaises(BadWeb) as caught:
            times((5, (2, 1)), 2)
        self.assertEqual(caught.exception.part, "steps")


class IsWebTest(unittest.TestCase):
    def test_webs(self):
        for value in GOOD_WEBS:
            with self.subTest(value=value):
                self.assertIs(is_web(value), True)

    def test_all_webs_of_few_halls(self):
        for halls in range(2, 8):
            for web in all_webs(halls):
                self.assertIs(is_web(web), True)

    def test_least_and_most_halls(self):
        found = [halls for halls in range(-3, 20) if is_web((halls, ()))]
        self.assertEqual(found, list(range(2, 14)))

    def test_least_and_most_step(self):
        for halls in range(2, 14):
            found = [step for step in range(-halls, 2 * halls + 2) if is_web((halls, (step,)))]
            self.assertEqual(found, list(range(1, halls)))

    def test_no_webs(self):
        for value, part in BAD_WEBS:
            with self.subTest(value=value):
                self.assertIs(is_web(value), False)

    def test_any_values(self):
        for value in ANY_VALUES:
            with self.subTest(value=value):
                self.assertIs(is_web(value), False)


class BadWebTest(unittest.TestCase):
    def test_each_function_of_one_web(self):
        for function in (ways, multiples, least_multiple, turned, is_two_way):
            for value, part in BAD_WEBS:
                with self.subTest(function=function.__name__, value=value):
                    self.assertEqual(outcome(function, value), ("BadWeb", {"part": part}))

    def test_any_values(self):
        for function in (ways, multiples, least_multiple, turned, is_two_way):
            for value in ANY_VALUES:
                with self.subTest(function=function.__name__, value=value):
                    name, fields = outcome(function, value)
                    self.assertEqual(name, "BadWeb")
                    self.assertIn(fields["part"], ("whole", "halls"))

    def test_web_comes_before_factor(self):
        for value, part in BAD_WEBS:
            for factor in (1, 0, None, True):
                with self.subTest(value=value, factor=factor):
                    self.assertEqual(outcome(times, value, factor), ("BadWeb", {"part": part}))

    def test_left_web_comes_before_right_web(self):
        for value, part in BAD_WEBS:
            with self.subTest(value=value):
                for other in ((5, (1,)), None, (14, ()), (5, [1]), value):
                    self.assertEqual(outcome(are_multiples, value, other), ("BadWeb", {"part": part}))

    def test_right_web_comes_before_unlike(self):
        for value, part in BAD_WEBS:
            with self.subTest(value=value):
                self.assertEqual(outcome(are_multiples, (5, (1,)), value), ("BadWeb", {"part": part}))
                self.assertEqual(outcome(are_multiples, (13, ()), value), ("BadWeb", {"part": part}))

    def test_net_is_no_web(self):
        with self.assertRaises(BadWeb) as caught:
            turned((3, ((0, 1), (1, 2))))
        self.assertEqual(caught.exception.part, "steps")
        self.assertFalse(any(is_web(value) for value, part in BAD_NETS if part != "ways"))


class WaysTest(unittest.TestCase):
    def test_small_webs(self):
        self.assertEqual(ways((2, (1,))), ((0, 1), (1, 0)))
        self.assertEqual(ways((4, (1, 2))), ((0, 1), (0, 2), (1, 2), (1, 3), (2, 0), (2, 3), (3, 0), (3, 1)))

    def test_no_steps_and_all_steps(self):
        for halls in range(2, 14):
            self.assertEqual(ways((halls, ())), ())
            all_pairs = tuple((a, b) for a in range(halls) for b in range(halls) if a != b)
            self.assertEqual(ways((halls, tuple(range(1, halls)))), all_pairs)

    def test_way_exists_if_step_does(self):
        for web in GOOD_WEBS + all_webs(6):
            halls, steps = web
            found = ways(web)
            self.assertEqual(type(found), tuple)
            self.assertEqual(list(found), sorted(set(found)))
            self.assertEqual(len(found), halls * len(steps))
            for start in range(halls):
                for end in range(halls):
                    further = end - start if end >= start else end - start + halls
                    self.assertEqual((start, end) in found, further in steps)


class FactorsTest(unittest.TestCase):
    def test_each_number_of_halls(self):
        for halls in range(2, 14):
            self.assertEqual(factors(halls), FACTORS[halls])

    def test_beyond_the_limits(self):
        for halls in (-7, -1, 0, 1, 14, 15, 17, 10**40):
            with self.subTest(halls=halls):
                self.assertEqual(outcome(factors, halls), ("BadNumber", {}))

    def test_no_integer(self):
        for value in (None, True, False, "5", "", (5,), (), [5], {}, {5: 5}, (5, (1,))):
            with self.subTest(value=value):
                self.assertEqual(outcome(factors, value), ("BadNumber", {}))


class TimesTest(unittest.TestCase):
    def test_written_out(self):
        self.assertEqual(times((8, (1, 2, 5)), 3), (8, (3, 6, 7)))
        self.assertEqual(times((9, (3, 4)), 7), (9, (1, 3)))
        self.assertEqual(times((13, (1, 3, 9)), 3), (13, (1, 3, 9)))
        self.assertEqual(times((2, (1,)), 1), (2, (1,)))

    def test_steps_are_multiplied(self):
        for web in GOOD_WEBS + all_webs(8) + all_webs(9):
            halls, steps = web
            for factor in FACTORS[halls]:
                products = sorted([step * factor - step * factor // halls * halls for step in steps])
                self.assertEqual(times(web, factor), (halls, tuple(products)))

    def test_no_factor_of_the_halls(self):
        for halls in range(2, 14):
            for factor in range(-3, 2 * halls + 3):
                if factor not in FACTORS[halls]:
                    with self.subTest(halls=halls, factor=factor):
                        self.assertEqual(outcome(times, (halls, (1,)), factor), ("BadNumber", {}))

    def test_no_integer(self):
        for value in (None, True, False, "1", "", (1,), (), [1], [], {}, {1: 1}, 10**40, -(10**40)):
            with self.subTest(value=value):
                self.assertEqual(outcome(times, (5, (1, 2)), value), ("BadNumber", {}))

    def test_no_factor_though_nothing_would_change(self):
        self.assertEqual(outcome(times, (4, ()), 2), ("BadNumber", {}))
        self.assertEqual(outcome(times, (4, (1, 2, 3)), 5), ("BadNumber", {}))


class MultiplesTest(unittest.TestCase):
    def test_written_out(self):
        self.assertEqual(multiples((7, (1, 2, 4))), ((7, (1, 2, 4)), (7, (3, 5, 6))))
        self.assertEqual(multiples((8, (1, 2, 5))), ((8, (1, 2, 5)), (8, (3, 6, 7))))
        self.assertEqual(multiples((13, ())), ((13, ()),))
        self.assertEqual(multiples((2, (1,))), ((2, (1,)),))
        self.assertEqual(multiples((6, (1,))), ((6, (1,)), (6, (5,))))

    def test_ascending_and_all_of_them(self):
        for web in GOOD_WEBS + all_webs(7) + all_webs(8):
            found = multiples(web)
            self.assertEqual(type(found), tuple)
            by_hand = []
            for factor in FACTORS[web[0]]:
                if times(web, factor) not in by_hand:
                    by_hand.append(times(web, factor))
            self.assertEqual(list(found), sorted(by_hand))

    def test_least_multiple(self):
        self.assertEqual(least_multiple((7, (3, 5, 6))), (7, (1, 2, 4)))
        self.assertEqual(least_multiple((13, (2, 5, 6))), (13, (1, 3, 9)))
        self.assertEqual(least_multiple((9, (3, 6))), (9, (3, 6)))
        for web in all_webs(9):
            self.assertEqual(least_multiple(web), min(times(web, factor) for factor in FACTORS[9]))

    def test_are_multiples(self):
        self.assertIs(are_multiples((7, (1, 2, 4)), (7, (3, 5, 6))), True)
        self.assertIs(are_multiples((7, (1, 2, 4)), (7, (1, 2, 3))), False)
        self.assertIs(are_multiples((7, ()), (7, (1,))), False)
        self.assertIs(are_multiples((4, (1,)), (4, (2,))), False)
        for halls in (5, 6):
            for one in all_webs(halls):
                for other in all_webs(halls):
                    by_hand = any(times(one, factor) == other for factor in FACTORS[halls])
                    self.assertIs(are_multiples(one, other), by_hand)

    def test_unlike_numbers_of_halls(self):
        for one, other in (((5, ()), (6, ())), ((13, (1,)), (2, (1,))), ((2, ()), (13, ()))):
            with self.assertRaises(Unlike):
                are_multiples(one, other)


class TurnedTest(unittest.TestCase):
    def test_written_out(self):
        self.assertEqual(turned((6, (1, 2))), (6, (4, 5)))
        self.assertEqual(turned((2, (1,))), (2, (1,)))
        self.assertEqual(turned((13, (1, 12))), (13, (1, 12)))
        self.assertEqual(turned((13, ())), (13, ()))

    def test_all_ways_are_turned(self):
        for web in GOOD_WEBS + all_webs(6) + all_webs(7):
            back = sorted((end, start) for start, end in ways(web))
            self.assertEqual(list(ways(turned(web))), back)
            self.assertIs(is_two_way(web), back == list(ways(web)))

    def test_is_two_way(self):
        self.assertIs(is_two_way((4, (2,))), True)
        self.assertIs(is_two_way((4, (1,))), False)
        self.assertIs(is_two_way((2, ())), True)
        self.assertIs(is_two_way((13, (1, 2, 11, 12))), True)
        self.assertIs(is_two_way((13, (1, 2, 11))), False)


if __name__ == "__main__":
    unittest.main()
