"""Promise 1: the errors of all functions, one argument wrong at a time and several at once."""

import unittest
from itertools import product

from stepwebs import counts, maps, nets, oddpairs, rings, webs, webtexts, wheels
from tests.samples import ANY_VALUES, BAD_NETS, BAD_WEBS, GOOD_NETS, GOOD_WEBS, outcome
from tests.test_package import INTERFACE

BAD_NUMBER = ("BadNumber", {})
NOT_PRIME = ("NotPrime", {})
NO_INTEGERS = (None, True, False, "", "5", "x", (), (5,), (True,), [], [5], {}, {5: 5}, (5, (1,)), ((5, ()), (5, ())))


def wrong_webs():
    return [(value, ("BadWeb", {"part": part})) for value, part in BAD_WEBS]


def wrong_nets():
    return [(value, ("BadNet", {"part": part})) for value, part in BAD_NETS]


def wrong_numbers(low, high):
    beyond = (low - 1, high + 1, -7, -high - 1, high + 50, 10**30, -(10**30))
    return [(value, BAD_NUMBER) for value in (*NO_INTEGERS, *beyond)]


def wrong_texts():
    lines = [("x", 1, 1), ("halls 14", 1, 2), ("halls 5 5", 1, 3), ("halls 5\nsteps 5", 2, 2), ("", 2, 1)]
    return [(value, ("BadText", {})) for value in NO_INTEGERS + (5, 0) if not isinstance(value, str)] + [
        (text, ("BadLine", {"line": line, "word": word})) for text, line, word in lines
    ]


# For each sort of argument a value that is allowed, and values that are not, with their errors.
WEB = (8, (1, 2, 5)), wrong_webs()
WEB_OF_PRIME = (7, (1, 2, 4)), wrong_webs() + [((halls, (1,)), NOT_PRIME) for halls in (4, 6, 8, 9, 10, 12)]
FACTOR_OF_8 = 3, wrong_numbers(1, 7) + [(number, BAD_NUMBER) for number in (2, 4, 6)]
NET = (3, ((0, 1), (0, 2))), wrong_nets()
HALLS_TO_13 = 13, wrong_numbers(2, 13)
HALLS_TO_11 = 6, wrong_numbers(2, 11)
HALLS_TO_10 = 7, wrong_numbers(2, 10)
PRIME = 61, wrong_numbers(2, 61) + [(halls, NOT_PRIME) for halls in (4, 9, 49, 51, 57, 60)]
MANY_OF_61 = 60, wrong_numbers(0, 60)
ANYTHING = None, []
TEXT = "halls 5\nsteps 1 4", wrong_texts()

SORTS = {
    webs.is_web: [ANYTHING],
    webs.ways: [WEB],
    webs.factors: [HALLS_TO_13],
    webs.times: [WEB, FACTOR_OF_8],
    webs.multiples: [WEB],
    webs.least_multiple: [WEB],
    webs.are_multiples: [WEB, WEB],
    webs.turned: [WEB],
    webs.is_two_way: [WEB],
    nets.is_net: [ANYTHING],
    nets.net_of: [WEB],
    nets.likeness: [NET, NET],
    nets.are_alike: [NET, NET],
    nets.shows_likeness: [NET, NET, ANYTHING],
    nets.count_symmetries: [NET],
    nets.is_even: [NET],
    rings.ring: [NET],
    rings.shows_ring: [NET, ANYTHING],
    rings.steps_along: [NET, ANYTHING],
    oddpairs.odd_pair: [HALLS_TO_10],
    oddpairs.shows_odd_pair: [HALLS_TO_10, ANYTHING],
    counts.count_webs: [PRIME],
    counts.count_with: [PRIME, MANY_OF_61],
    counts.count_two_way: [PRIME],
    counts.least_webs: [HALLS_TO_11],
    maps.keepers: [WEB],
    maps.count_plain: [WEB],
    maps.is_plain: [WEB],
    maps.symmetries: [WEB_OF_PRIME],
    wheels.Wheel: [WEB],
    webtexts.write_web: [WEB],
    webtexts.read_web: [TEXT],
}
# These compare two arguments that must have as many halls.
OF_AS_MANY_HALLS = (webs.are_multiples, nets.likeness, nets.are_alike, nets.shows_likeness)


class WrongArgumentsTest(unittest.TestCase):
    def check(self, function, args, error):
        with self.subTest(function=function.__name__, args=args):
            self.assertEqual(outcome(function, *args), error)

    def test_all_functions_are_here(self):
        listed = [name for module, names in INTERFACE.items() if module != "errors" for name in names]
        self.assertEqual(sorted(function.__name__ for function in SORTS), sorted(listed))

    def test_allowed_arguments(self):
        for function, sorts in SORTS.items():
            self.assertEqual(outcome(function, *[allowed for allowed, wrong in sorts])[0], "value")

    def test_one_wrong_argument(self):
        for function, sorts in SORTS.items():
            for at, (_, wrong) in enumerate(sorts):
                for value, error in wrong:
                    args = [allowed for allowed, others in sorts]
                    args[at] = value
                    self.check(function, args, error)

    def test_several_wrong_arguments(self):
        for function, sorts in SORTS.items():
            choices = [[(allowed, None)] + wrong[::4] + wrong[-2:] for allowed, wrong in sorts]
            for chosen in product(*choices):
                errors = [error for _, error in chosen if error is not None]
                if errors:
                    self.check(function, [value for value, _ in chosen], errors[0])

    def test_any_value_where_anything_is_allowed(self):
        for function, sorts in SORTS.items():
            if sorts[-1] is ANYTHING:
                args = [allowed for allowed, wrong in sorts[:-1]]
                for value in ANY_VALUES + GOOD_WEBS + GOOD_NETS:
                    self.assertEqual(outcome(function, *args, value)[0], "value")

    def test_unlike_comes_behind_all_arguments(self):
        for function in OF_AS_MANY_HALLS:
            sorts = SORTS[function]
            wrong = sorts[0][1]
            others = [(2, ()), (13, ())]
            rest = [None] * (len(sorts) - 2)
            for other in others:
                self.check(function, [sorts[0][0], other, *rest], ("Unlike", {}))
                self.check(function, [other, sorts[0][0], *rest], ("Unlike", {}))
                for value, error in wrong:
                    self.check(function, [value, other, *rest], error)
                    self.check(function, [other, value, *rest], error)
        for value in ANY_VALUES + [(0, 1), (0, 1, 2)]:
            self.check(nets.shows_likeness, [(2, ()), (3, ()), value], ("Unlike", {}))


if __name__ == "__main__":
    unittest.main()
