"""Promise 8: a walk round the wheel."""

import unittest
from random import Random

from stepwebs.errors import BadStep
from stepwebs.wheels import Wheel
from tests.samples import ANY_VALUES, BAD_WEBS, GOOD_WEBS, all_webs, outcome


def shown(wheel):
    return wheel.steps, wheel.path, wheel.hall


def path_by_hand(halls, steps):
    return tuple(sum(steps[:many]) % halls for many in range(len(steps) + 1))


class ExamplesTest(unittest.TestCase):
    def test_first_example(self):
        wheel = Wheel((7, (1, 2, 4)))
        self.assertEqual(
            [wheel.go(4), wheel.go(4), wheel.path, wheel.steps, wheel.undo(), wheel.hall],
            [None, None, (0, 4, 1), (4, 4), None, 4],
        )

    def test_second_example(self):
        with self.assertRaises(BadStep) as caught:
            Wheel((7, (1, 2, 4))).go(3)
        self.assertEqual(vars(caught.exception), {})


class WalkTest(unittest.TestCase):
    def test_new_wheel(self):
        for web in GOOD_WEBS:
            wheel = Wheel(web)
            self.assertEqual(shown(wheel), ((), (0,), 0))

    def test_each_step_of_each_web(self):
        for halls in range(2, 8):
            for web in all_webs(halls):
                for step in web[1]:
                    wheel = Wheel(web)
                    self.assertIsNone(wheel.go(step))
                    self.assertEqual(shown(wheel), ((step,), (0, step), step))

    def test_round_the_wheel(self):
        wheel = Wheel((2, (1,)))
        for _ in range(5):
            wheel.go(1)
        self.assertEqual(shown(wheel), ((1, 1, 1, 1, 1), (0, 1, 0, 1, 0, 1), 1))
        wheel = Wheel((13, (12,)))
        for _ in range(13):
            wheel.go(12)
        self.assertEqual(wheel.path, (0, 12, 11, 10, 9, 8, 7, 6, 5, 4, 3, 2, 1, 0))
        self.assertEqual(wheel.hall, 0)

    def test_many_steps_gone_and_taken_back(self):
        random = Random(8)
        for web in GOOD_WEBS:
            halls, steps = web
            wheel = Wheel(web)
            gone = []
            for _ in range(600):
                if steps and random.random() < 0.6:
                    gone.append(random.choice(steps))
                    self.assertIsNone(wheel.go(gone[-1]))
                elif gone:
                    gone.pop()
                    self.assertIsNone(wheel.undo())
                else:
                    self.assertEqual(outcome(wheel.undo), ("NoStep", {}))
                path = path_by_hand(halls, gone)
                self.assertEqual(shown(wheel), (tuple(gone), path, path[-1]))
            while gone:
                gone.pop()
                wheel.undo()
                path = path_by_hand(halls, gone)
                self.assertEqual(shown(wheel), (tuple(gone), path, path[-1]))
            self.assertEqual(outcome(wheel.undo), ("NoStep", {}))
            self.assertEqual(shown(wheel), ((), (0,), 0))

    def test_kinds_of_values(self):
        wheel = Wheel((5, (2, 3)))
        for _ in range(3):
            self.assertIs(type(wheel.steps), tuple)
            self.assertIs(type(wheel.path), tuple)
            self.assertIs(type(wheel.hall), int)
            wheel.go(3)

    def test_shown_values_stay_as_they_were(self):
        wheel = Wheel((5, (2, 3)))
        wheel.go(2)
        steps, path, hall = shown(wheel)
        wheel.go(3)
        wheel.go(3)
        wheel.undo()
        self.assertEqual((steps, path, hall), ((2,), (0, 2), 2))
        self.assertEqual(shown(wheel), ((2, 3), (0, 2, 0), 0))
        self.assertEqual(shown(wheel), ((2, 3), (0, 2, 0), 0))

    def test_wheels_go_on_their_own(self):
        web = (7, (1, 2, 4))
        one = Wheel(web)
        other = Wheel(web)
        one.go(4)
        self.assertEqual(shown(other), ((), (0,), 0))
        other.go(1)
        other.go(1)
        one.undo()
        self.assertEqual(shown(one), ((), (0,), 0))
        self.assertEqual(shown(other), ((1, 1), (0, 1, 2), 2))
        self.assertEqual(web, (7, (1, 2, 4)))


class BadStepTest(unittest.TestCase):
    def test_steps_of_other_webs(self):
        for web in GOOD_WEBS:
            halls, steps = web
            for step in range(-halls, 2 * halls + 2):
                if step not in steps:
                    self.assertEqual(outcome(Wheel(web).go, step), ("BadStep", {}))

    def test_any_values(self):
        for web in ((2, ()), (2, (1,)), (4, (3,)), (13, tuple(range(1, 13)))):
            for value in [*ANY_VALUES, (1, 2), "3", (3,), {3: 3}, [3], 10**40]:
                if value is True or value not in web[1]:
                    with self.subTest(web=web, value=value):
                        self.assertEqual(outcome(Wheel(web).go, value), ("BadStep", {}))

    def test_true_is_no_step(self):
        wheel = Wheel((2, (1,)))
        self.assertEqual(outcome(wheel.go, True), ("BadStep", {}))
        self.assertEqual(outcome(wheel.go, False), ("BadStep", {}))
        self.assertEqual(shown(wheel), ((), (0,), 0))

    def test_the_steps_gone_stay(self):
        wheel = Wheel((7, (1, 2, 4)))
        wheel.go(2)
        wheel.go(4)
        for value in (0, 3, 5, 7, 8, 9, 11, -1, -3, True, None, "1", (1,), [1]):
            self.assertEqual(outcome(wheel.go, value), ("BadStep", {}))
            self.assertEqual(shown(wheel), ((2, 4), (0, 2, 6), 6))
        wheel.go(1)
        self.assertEqual(shown(wheel), ((2, 4, 1), (0, 2, 6, 0), 0))


class NoStepTest(unittest.TestCase):
    def test_new_wheel(self):
        for web in GOOD_WEBS:
            wheel = Wheel(web)
            for _ in range(2):
                self.assertEqual(outcome(wheel.undo), ("NoStep", {}))
                self.assertEqual(shown(wheel), ((), (0,), 0))

    def test_after_the_last_step_is_taken_back(self):
        wheel = Wheel((5, (1, 4)))
        wheel.go(4)
        wheel.go(1)
        wheel.undo()
        wheel.undo()
        self.assertEqual(outcome(wheel.undo), ("NoStep", {}))
        wheel.go(4)
        self.assertEqual(shown(wheel), ((4,), (0, 4), 4))
        wheel.undo()
        self.assertEqual(outcome(wheel.undo), ("NoStep", {}))
        self.assertEqual(shown(wheel), ((), (0,), 0))


class BadWebTest(unittest.TestCase):
    def test_no_webs(self):
        for value, part in BAD_WEBS:
            with self.subTest(value=value):
                self.assertEqual(outcome(Wheel, value), ("BadWeb", {"part": part}))

    def test_any_values(self):
        for value in ANY_VALUES:
            with self.subTest(value=value):
                self.assertEqual(outcome(Wheel, value)[0], "BadWeb")


class ClassTest(unittest.TestCase):
    def test_methods_and_properties_are_defined_in_the_class(self):
        for name in ("go", "undo"):
            self.assertTrue(callable(vars(Wheel)[name]))
        for name in ("steps", "path", "hall"):
            self.assertIsInstance(vars(Wheel)[name], property)


if __name__ == "__main__":
    unittest.main()
