"""Promise 9: texts of webs."""

import unittest
from random import Random

from stepwebs.errors import BadLine
from stepwebs.webtexts import read_web, write_web
from tests.samples import ANY_VALUES, BAD_WEBS, GOOD_WEBS, all_webs, outcome

# What is no number from 2 to 13, and no step of any web either.
NO_NUMBERS = tuple(
    "0 00 02 05 013 -5 +5 5. 5.0 5, ,5 5,6 5_ 1_0 5e0 0x5 x five five5 halls steps True None () (5) '5' 5\t \t5 "
    "5\r \r 5\v 5\f 5\x00 5\xa0 \xa05 \xb2 \xb5 \u0665 \uff15 \u2003 \u3000 5\u2028 5\x85 \ud800".split(" ")
)


def bad_line(line, word):
    return "BadLine", {"line": line, "word": word}


def whole_web(halls):
    return halls, tuple(range(1, halls))


def spread(random, text):
    """A text with more spaces round its words, and lines without words round its lines."""
    lines = []
    for line in text.split("\n"):
        lines += [" " * random.randrange(3) for _ in range(random.randrange(3))]
        parts = [" " * random.randrange(4)]
        for word in line.split(" "):
            parts += [word, " " * random.randrange(1, 4)]
        lines.append("".join(parts))
    lines += [" " * random.randrange(3) for _ in range(random.randrange(3))]
    return "\n".join(lines)


class ExamplesTest(unittest.TestCase):
    def test_first_example(self):
        self.assertEqual(
            [write_web((7, (1, 2, 4))), read_web("halls 5\nsteps 1 4")],
            ["halls 7\nsteps 1 2 4", (5, (1, 4))],
        )

    def test_second_example(self):
        with self.assertRaises(BadLine) as caught:
            read_web("halls 5\nsteps 2 1")
        self.assertEqual(vars(caught.exception), {"line": 2, "word": 3})


class WriteTest(unittest.TestCase):
    def test_written_out(self):
        self.assertEqual(write_web((2, ())), "halls 2\nsteps")
        self.assertEqual(write_web((2, (1,))), "halls 2\nsteps 1")
        self.assertEqual(write_web(whole_web(13)), "halls 13\nsteps 1 2 3 4 5 6 7 8 9 10 11 12")

    def test_all_webs(self):
        for halls in range(2, 14):
            for web in all_webs(halls):
                lines = [["halls", str(halls)], ["steps", *map(str, web[1])]]
                self.assertEqual(write_web(web), "\n".join(" ".join(words) for words in lines))

    def test_no_webs(self):
        for value, part in BAD_WEBS:
            with self.subTest(value=value):
                self.assertEqual(outcome(write_web, value), ("BadWeb", {"part": part}))
        for value in ANY_VALUES + ["halls 5\nsteps 1"]:
            self.assertEqual(outcome(write_web, value)[0], "BadWeb")


class ReadTest(unittest.TestCase):
    def test_what_is_written(self):
        for halls in range(2, 14):
            for web in all_webs(halls):
                found = read_web(write_web(web))
                self.assertEqual(found, web)
        self.assertEqual([type(found), type(found[0]), type(found[1]), type(found[1][0])], [tuple, int, tuple, int])

    def test_spaces_anywhere(self):
        for text in (
            "  halls 5\nsteps 1 4",
            "halls   5\nsteps 1 4",
            "halls 5   \nsteps 1 4",
            "halls 5\n   steps 1 4",
            "halls 5\nsteps   1 4",
            "halls 5\nsteps 1     4",
            "halls 5\nsteps 1 4  ",
            "  halls  5  \n  steps  1  4  ",
        ):
            self.assertEqual(read_web(text), (5, (1, 4)))

    def test_void_lines_anywhere(self):
        for text in (
            "\nhalls 5\nsteps 1 4",
            "\n\n\nhalls 5\nsteps 1 4",
            "halls 5\n\nsteps 1 4",
            "halls 5\n\n\n\nsteps 1 4",
            "halls 5\nsteps 1 4\n",
            "halls 5\nsteps 1 4\n\n\n",
            "   \nhalls 5\n \nsteps 1 4\n  ",
            "\n \n\nhalls 5\n\n  \nsteps 1 4\n \n\n",
        ):
            self.assertEqual(read_web(text), (5, (1, 4)))

    def test_spaces_and_void_lines_in_all_webs(self):
        random = Random(9)
        for halls in range(2, 14):
            for web in [(halls, ()), whole_web(halls)] + random.sample(all_webs(halls), min(30, 2 ** (halls - 1))):
                for _ in range(5):
                    text = spread(random, write_web(web))
                    with self.subTest(text=text):
                        self.assertEqual(read_web(text), web)

    def test_no_strings(self):
        for value in [value for value in ANY_VALUES if not isinstance(value, str)] + GOOD_WEBS:
            with self.subTest(value=value):
                self.assertEqual(outcome(read_web, value), ("BadText", {}))
        for value in (["halls 5", "steps 1"], ("halls 5\nsteps 1",), {"halls": 5, "steps": 1}, ["halls 5\nsteps 1"]):
            self.assertEqual(outcome(read_web, value), ("BadText", {}))


class LinesTest(unittest.TestCase):
    def test_both_lines_lack(self):
        self.assertEqual(outcome(read_web, ""), bad_line(2, 1))
        for many in range(5):
            self.assertEqual(outcome(read_web, "\n" * many), bad_line(many + 2, 1))
            self.assertEqual(outcome(read_web, "  " + "\n " * many), bad_line(many + 2, 1))

    def test_second_line_lacks(self):
        self.assertEqual(outcome(read_web, "halls 5"), bad_line(2, 1))
        self.assertEqual(outcome(read_web, "  halls  5  "), bad_line(2, 1))
        for ahead in range(4):
            for behind in range(4):
                text = "\n" * ahead + "halls 5" + "\n" * behind
                self.assertEqual(outcome(read_web, text), bad_line(ahead + behind + 2, 1))

    def test_third_line(self):
        for third in ("halls", "halls 5", "steps", "steps 1", "x", "1", "  2  3", "\t"):
            self.assertEqual(outcome(read_web, "halls 5\nsteps 1 4\n" + third), bad_line(3, 1))
            self.assertEqual(outcome(read_web, "halls 5\nsteps\n" + third + "\nx"), bad_line(3, 1))
            self.assertEqual(outcome(read_web, "\nhalls 5\n\n \nsteps 1 4\n\n" + third + "\n\nx"), bad_line(7, 1))

    def test_void_lines_are_counted(self):
        self.assertEqual(outcome(read_web, "\nx"), bad_line(2, 1))
        self.assertEqual(outcome(read_web, "\n  \nhalls 14"), bad_line(3, 2))
        self.assertEqual(outcome(read_web, "\nhalls 5 6"), bad_line(2, 3))
        self.assertEqual(outcome(read_web, "\nhalls 5\n\n\nx"), bad_line(5, 1))
        self.assertEqual(outcome(read_web, "\n\nhalls 5\n\nsteps 1 1\n"), bad_line(5, 3))

    def test_spaces_are_no_words(self):
        self.assertEqual(outcome(read_web, "  x"), bad_line(1, 1))
        self.assertEqual(outcome(read_web, "  halls   x"), bad_line(1, 2))
        self.assertEqual(outcome(read_web, "  halls   5   x"), bad_line(1, 3))
        self.assertEqual(outcome(read_web, "halls 5\n  steps   1   1"), bad_line(2, 3))

    def test_line_by_line(self):
        self.assertEqual(outcome(read_web, "hall 14 2\nstep 0\nx"), bad_line(1, 1))
        self.assertEqual(outcome(read_web, "halls 14 2\nstep 0\nx"), bad_line(1, 2))
        self.assertEqual(outcome(read_web, "halls 13 2\nstep 0\nx"), bad_line(1, 3))
        self.assertEqual(outcome(read_web, "halls 13\nstep 0\nx"), bad_line(2, 1))
        self.assertEqual(outcome(read_web, "halls 13\nsteps 0 0\nx"), bad_line(2, 2))
        self.assertEqual(outcome(read_web, "halls 13\nsteps 1 0 0\nx"), bad_line(2, 3))
        self.assertEqual(outcome(read_web, "halls 13\nsteps 1\nx"), bad_line(3, 1))
        self.assertEqual(outcome(read_web, "halls 14"), bad_line(1, 2))
        self.assertEqual(outcome(read_web, "x"), bad_line(1, 1))


class HallsLineTest(unittest.TestCase):
    def test_first_word(self):
        for word in ("hall", "hallss", "Halls", "HALLS", "steps", "5", "halls5", "halls:", "halls\t5", "\thalls", "x"):
            for rest in ("", " 5", " 5\nsteps 1", " 14 2 3"):
                self.assertEqual(outcome(read_web, word + rest), bad_line(1, 1))

    def test_lines_in_wrong_order(self):
        self.assertEqual(outcome(read_web, "steps 1 4\nhalls 5"), bad_line(1, 1))
        self.assertEqual(outcome(read_web, "halls 5\nhalls 5"), bad_line(2, 1))

    def test_numbers_of_halls(self):
        for halls in range(20):
            told = ("value", (halls, ())) if 2 <= halls <= 13 else bad_line(1, 2)
            self.assertEqual(outcome(read_web, f"halls {halls}\nsteps"), told)

    def test_no_number_of_halls(self):
        for word in NO_NUMBERS + ("1", "14", "-2", "130", "13" * 300, "1" * 5000):
            with self.subTest(word=word):
                self.assertEqual(outcome(read_web, f"halls {word}\nsteps"), bad_line(1, 2))
                self.assertEqual(outcome(read_web, f"halls {word} {word}\nx"), bad_line(1, 2))

    def test_number_of_halls_lacks(self):
        for text in ("halls", "halls ", " halls  ", "halls\nsteps", "halls\nsteps 1", "halls\n5\nsteps 1"):
            self.assertEqual(outcome(read_web, text), bad_line(1, 2))

    def test_third_word(self):
        for word in ("5", "6", "x", "steps", "0", ","):
            for rest in ("", "\nsteps", "\nsteps 1 4", " x", "\nx"):
                self.assertEqual(outcome(read_web, f"halls 5 {word}{rest}"), bad_line(1, 3))


class StepsLineTest(unittest.TestCase):
    def test_first_word(self):
        for word in ("step", "stepss", "Steps", "STEPS", "halls", "1", "steps1", "steps:", "steps\t1", "\tsteps", "x"):
            for rest in ("", " 1", " 1\nx", " 4 1"):
                self.assertEqual(outcome(read_web, "halls 5\n" + word + rest), bad_line(2, 1))

    def test_one_step(self):
        for halls in range(2, 14):
            for step in range(halls + 3):
                told = ("value", (halls, (step,))) if 1 <= step < halls else bad_line(2, 2)
                self.assertEqual(outcome(read_web, f"halls {halls}\nsteps {step}"), told)

    def test_two_steps(self):
        for halls in (2, 5, 13):
            for one in range(1, halls):
                for other in range(halls + 2):
                    told = ("value", (halls, (one, other))) if one < other < halls else bad_line(2, 3)
                    self.assertEqual(outcome(read_web, f"halls {halls}\nsteps {one} {other}"), told)

    def test_no_step(self):
        for word in NO_NUMBERS + ("13", "14", "-1", "12" * 300, "1" * 5000):
            with self.subTest(word=word):
                self.assertEqual(outcome(read_web, f"halls 13\nsteps {word}"), bad_line(2, 2))
                self.assertEqual(outcome(read_web, f"halls 13\nsteps 1 2 {word} 0"), bad_line(2, 4))
                self.assertEqual(outcome(read_web, f"halls 13\nsteps {word} 12"), bad_line(2, 2))

    def test_order_and_twice(self):
        self.assertEqual(outcome(read_web, "halls 5\nsteps 1 1"), bad_line(2, 3))
        self.assertEqual(outcome(read_web, "halls 5\nsteps 1 2 4 3"), bad_line(2, 5))
        self.assertEqual(outcome(read_web, "halls 5\nsteps 3 1 4"), bad_line(2, 3))
        self.assertEqual(outcome(read_web, "halls 13\nsteps 2 10 9"), bad_line(2, 4))
        self.assertEqual(outcome(read_web, "halls 13\nsteps 9 10"), ("value", (13, (9, 10))))
        self.assertEqual(outcome(read_web, "halls 5\nsteps 1,4"), bad_line(2, 2))
        self.assertEqual(outcome(read_web, "halls 5\nsteps 1, 4"), bad_line(2, 2))
        self.assertEqual(outcome(read_web, "halls 5\nsteps 1 4 5"), bad_line(2, 4))

    def test_other_signs_part_no_lines(self):
        self.assertEqual(outcome(read_web, "halls 5\r\nsteps 1"), bad_line(1, 2))
        self.assertEqual(outcome(read_web, "halls 5\rsteps 1"), bad_line(1, 2))
        self.assertEqual(outcome(read_web, "halls 5\nsteps 1\r\n"), bad_line(2, 2))
        self.assertEqual(outcome(read_web, "halls 5\nsteps 1\x0csteps 2"), bad_line(2, 2))
        self.assertEqual(outcome(read_web, "halls 5\nsteps 1\n\t\n"), bad_line(3, 1))


if __name__ == "__main__":
    unittest.main()
