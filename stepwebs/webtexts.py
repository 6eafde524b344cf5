"""Texts of webs."""

from stepwebs.checks import MOST_HALLS, check_web
from stepwebs.errors import BadLine, BadText


def write_web(web):
    """The text of a web."""
    check_web(web)
    halls, steps = web
    return f"halls {halls}\n" + " ".join(["steps"] + [str(step) for step in steps])


def read_web(text):
    """The web that a text tells."""
    if not isinstance(text, str):
        raise BadText("no string")
    rows = _rows(text)
    halls = _read_halls(rows[0])
    steps = _read_steps(rows[1], halls)
    if len(rows) > 3:
        raise BadLine(rows[2][0], 1)
    return halls, steps


def _rows(text):
    """The number and the words of each line that is not void, and of the line behind the last one."""
    lines = [[word for word in line.split(" ") if word != ""] for line in text.split("\n")]
    rows = [(number, words) for number, words in enumerate(lines, start=1) if len(words) > 0]
    # A line that lacks is told there: as one without its first word.
    return rows + [(len(lines) + 1, [])]


def _read_halls(row):
    line, words = row
    _check_first(row, "halls")
    halls = _number(words[1], 2, MOST_HALLS) if len(words) > 1 else None
    if halls is None:
        raise BadLine(line, 2)
    if len(words) > 2:
        raise BadLine(line, 3)
    return halls


def _read_steps(row, halls):
    line, words = row
    _check_first(row, "steps")
    steps = []
    lowest = 1
    for at in range(1, len(words)):
        step = _number(words[at], lowest, halls - 1)
        if step is None:
            raise BadLine(line, at + 1)
        steps.append(step)
        lowest = step + 1
    return tuple(steps)


def _check_first(row, name):
    """Raise BadLine unless a name is the first word of a row."""
    line, words = row
    if words[:1] != [name]:
        raise BadLine(line, 1)


def _number(word, low, high):
    """The integer from low to high that a word is, None if it is none."""
    for number in range(low, high + 1):
        if word == str(number):
            return number
    return None
