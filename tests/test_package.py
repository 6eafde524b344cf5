"""Promise 1: what holds of the whole package; and the form of its files."""

import ast
import copy
import unittest
from pathlib import Path

from stepwebs import counts, maps, nets, oddpairs, rings, webs, webtexts, wheels
from tests.samples import ANY_VALUES, BAD_NETS, BAD_WEBS, GOOD_NETS, GOOD_WEBS, outcome

FOLDER = Path(webs.__file__).parent

INTERFACE = {
    "errors": (
        "WebError BadWeb BadNet BadNumber NotPrime Unlike BadStep NoStep BadText BadLine".split()
    ),
    "webs": "is_web are_multiples is_two_way ways factors multiples times least_multiple turned".split(),
    "nets": "is_net are_alike shows_likeness is_even net_of likeness count_symmetries".split(),
    "rings": "ring steps_along shows_ring".split(),
    "oddpairs": "odd_pair shows_odd_pair".split(),
    "counts": "count_webs count_with count_two_way least_webs".split(),
    "maps": "keepers count_plain symmetries is_plain".split(),
    "wheels": ["Wheel"],
    "webtexts": "write_web read_web".split(),
}

ONE_ARGUMENT = [
    webs.is_web,
    webs.ways,
    webs.factors,
    webs.multiples,
    webs.least_multiple,
    webs.turned,
    webs.is_two_way,
    nets.is_net,
    nets.net_of,
    nets.count_symmetries,
    nets.is_even,
    rings.ring,
    oddpairs.odd_pair,
    counts.count_webs,
    counts.count_two_way,
    counts.least_webs,
    maps.keepers,
    maps.count_plain,
    maps.is_plain,
    maps.symmetries,
    webtexts.write_web,
    webtexts.read_web,
]
TWO_ARGUMENTS = [
    webs.times,
    webs.are_multiples,
    nets.likeness,
    nets.are_alike,
    rings.steps_along,
    rings.shows_ring,
    oddpairs.shows_odd_pair,
    counts.count_with,
]
# They may answer with any such value.
UNPROMISED = [nets.likeness, rings.ring, oddpairs.odd_pair]
ERRORS = ("BadWeb", "BadNet", "BadNumber", "NotPrime", "Unlike", "BadStep", "NoStep", "BadText", "BadLine")

VALUES = (
    ANY_VALUES
    + [value for value, part in BAD_WEBS]
    + [value for value, part in BAD_NETS]
    + GOOD_WEBS
    + GOOD_NETS
    + ["halls 5\nsteps 1 4", "halls 5\nsteps 4 1"]
)
FEWER_VALUES = ANY_VALUES + VALUES[24::7] + GOOD_WEBS[:5] + GOOD_NETS[:6]


def calls():
    """Functions, each with arguments of all kinds."""
    for function in ONE_ARGUMENT:
        for value in VALUES:
            yield function, (value,)
    for function in TWO_ARGUMENTS:
        for one in FEWER_VALUES:
            for other in FEWER_VALUES:
                yield function, (one, other)
    for one in FEWER_VALUES[::3]:
        for other in FEWER_VALUES[::4]:
            for value in ANY_VALUES:
                yield nets.shows_likeness, (one, other, value)


class AnyValuesTest(unittest.TestCase):
    def test_only_own_errors_and_nothing_modified(self):
        # outcome lets through every error that is none of the package's.
        for function, args in calls():
            before = copy.deepcopy(args)
            kept = repr(args)
            answer = outcome(function, *args)
            self.assertEqual(args, before)
            self.assertEqual(repr(args), kept)
            self.assertIn(answer[0], ("value", *ERRORS))

    def test_equal_arguments_have_equal_answers(self):
        for function, args in calls():
            if function not in UNPROMISED:
                self.assertEqual(outcome(function, *args), outcome(function, *copy.deepcopy(args)))

    def test_wheel_modifies_nothing(self):
        for value in VALUES:
            kept = copy.deepcopy(value)
            name, wheel = outcome(wheels.Wheel, value)
            self.assertIn(name, ("value", "BadWeb"))
            if name == "value":
                for step in VALUES:
                    before = copy.deepcopy(step)
                    self.assertIn(outcome(wheel.go, step)[0], ("value", "BadStep"))
                    self.assertEqual(repr(step), repr(before))
                self.assertTrue(all(type(step) is int for step in wheel.steps))
            self.assertEqual(repr(value), repr(kept))

    def test_shows_gives_true_or_false(self):
        for one, other in (((3, ()), (3, ((0, 1),))), ((2, ()), (2, ())), ((1, ()), (1, ()))):
            for value in VALUES:
                self.assertIn(outcome(nets.shows_likeness, one, other, value), (("value", True), ("value", False)))
                self.assertIs(type(nets.shows_likeness(one, other, value)), bool)
        for value in VALUES:
            for net in GOOD_NETS:
                self.assertIs(type(rings.shows_ring(net, value)), bool)
            for halls in range(2, 10):
                self.assertIs(type(oddpairs.shows_odd_pair(halls, value)), bool)

    def test_exact_for_great_numbers(self):
        for great in (10**100, -(10**100), 2**64 + 5):
            self.assertEqual(outcome(webs.factors, great)[0], "BadNumber")
            self.assertEqual(outcome(webs.times, (5, (1,)), great)[0], "BadNumber")
            self.assertIs(webs.is_web((5, (great,))), False)
            self.assertIs(nets.is_net((great, ())), False)
            self.assertEqual(outcome(oddpairs.odd_pair, great)[0], "BadNumber")
            self.assertIsNone(rings.steps_along((1, ()), (great,)))
            self.assertEqual(outcome(counts.count_webs, great), ("BadNumber", {}))
            self.assertEqual(outcome(counts.count_with, 61, great), ("BadNumber", {}))
            self.assertEqual(outcome(wheels.Wheel((5, (1,))).go, great), ("BadStep", {}))
            self.assertEqual(outcome(webtexts.read_web, f"halls {great}"), ("BadLine", {"line": 1, "word": 2}))

    def test_true_and_false_are_no_integers(self):
        self.assertEqual(outcome(webs.factors, True)[0], "BadNumber")
        self.assertEqual(outcome(webs.times, (5, (1,)), True), ("BadNumber", {}))
        self.assertEqual(outcome(webs.turned, (5, (True,))), ("BadWeb", {"part": "steps"}))
        self.assertEqual(outcome(nets.is_even, (True, ())), ("BadNet", {"part": "halls"}))
        self.assertEqual(outcome(nets.is_even, (2, ((False, True),))), ("BadNet", {"part": "ways"}))
        self.assertIs(nets.shows_likeness((2, ()), (2, ()), (False, True)), False)
        self.assertIs(rings.shows_ring((2, ()), (False, True)), False)
        self.assertIsNone(rings.steps_along((2, ()), (False, True)))
        self.assertEqual(outcome(oddpairs.odd_pair, True), ("BadNumber", {}))
        self.assertIs(oddpairs.shows_odd_pair(8, ((8, (True, 2, 5)), (8, (1, 5, 6)))), False)
        self.assertEqual(outcome(maps.keepers, (True, ())), ("BadWeb", {"part": "halls"}))
        self.assertEqual(outcome(maps.symmetries, (4, (True,))), ("BadWeb", {"part": "steps"}))
        self.assertEqual(outcome(counts.least_webs, True), ("BadNumber", {}))
        self.assertEqual(outcome(counts.count_with, 5, False), ("BadNumber", {}))
        self.assertEqual(outcome(wheels.Wheel((5, (1,))).go, True), ("BadStep", {}))
        self.assertEqual(outcome(webtexts.write_web, (5, (True,))), ("BadWeb", {"part": "steps"}))


class FormTest(unittest.TestCase):
    def trees(self):
        for path in sorted(FOLDER.glob("*.py")):
            yield path, path.read_text(encoding="ascii"), ast.parse(path.read_text(encoding="ascii"))

    def test_folder_holds_python_files_alone(self):
        names = [path.name for path in FOLDER.iterdir() if path.name != "__pycache__"]
        self.assertTrue(all(name.endswith(".py") for name in names))
        self.assertIn("__init__.py", names)

    def test_names_are_defined_where_they_are_listed(self):
        for path, text, tree in self.trees():
            defined = [node.name for node in tree.body if isinstance(node, (ast.FunctionDef, ast.ClassDef))]
            for name in INTERFACE.get(path.stem, ()):
                self.assertEqual(defined.count(name), 1, name)

    def test_imports(self):
        # No clock, no randomness, no files: nothing but the package itself, whole numbers and choices.
        for path, text, tree in self.trees():
            for node in ast.walk(tree):
                self.assertNotIsInstance(node, ast.Import)
                if isinstance(node, ast.ImportFrom):
                    allowed = node.module in ("math", "itertools") or node.module.startswith("stepwebs.")
                    self.assertTrue(allowed and node.level == 0, node.module)

    def test_no_files_and_no_floats(self):
        for path, text, tree in self.trees():
            for node in ast.walk(tree):
                if isinstance(node, ast.Name):
                    self.assertNotIn(node.id, ("open", "input", "print", "float", "exec", "eval", "hash", "id"))
                if isinstance(node, ast.Constant):
                    self.assertNotIsInstance(node.value, (float, complex))
                self.assertNotIsInstance(node, ast.Div)

    def test_sizes(self):
        for path, text, tree in self.trees():
            rows = text.split("\n")
            self.assertLess(len(rows), 400)
            self.assertLessEqual(max(len(row) for row in rows), 120)
            self.assertTrue(all(" " <= sign <= "~" or sign == "\n" for sign in text))
            for node in ast.walk(tree):
                if isinstance(node, ast.FunctionDef):
                    self.assertLess(node.end_lineno - node.lineno, 40)


if __name__ == "__main__":
    unittest.main()
