"""Webs round a wheel, and their multiples."""

from math import gcd

from stepwebs.checks import MOST_HALLS, check_number, check_web, is_number, wrong_in_web
from stepwebs.errors import BadNumber, Unlike


def is_web(value):
    """Whether a value is a web."""
    return wrong_in_web(value) == ""


def ways(web):
    """The ways of a web, pairs (from, to), ascending."""
    check_web(web)
    halls, steps = web
    return tuple(sorted([(hall, (hall + step) % halls) for hall in range(halls) for step in steps]))


def factors(halls):
    """The factors of a number of halls, ascending."""
    check_number(halls, 2, MOST_HALLS)
    return tuple([number for number in range(1, halls) if gcd(number, halls) == 1])


def times(web, factor):
    """The multiple of a web by a factor of its halls."""
    check_web(web)
    if not is_number(factor, 1, web[0] - 1) or gcd(factor, web[0]) != 1:
        raise BadNumber("no factor of the halls")
    return _multiplied(web, factor)


def multiples(web):
    """All unlike multiples of a web, ascending."""
    check_web(web)
    return tuple(sorted({_multiplied(web, factor) for factor in factors(web[0])}))


def least_multiple(web):
    """The first of the multiples of a web."""
    return multiples(web)[0]


def are_multiples(one, other):
    """Whether the second web is a multiple of the first one."""
    check_web(one)
    check_web(other)
    if one[0] != other[0]:
        raise Unlike("unlike numbers of halls")
    return other in multiples(one)


def turned(web):
    """The web with all ways the other way round."""
    check_web(web)
    # A way back is a way by -1 times the step.
    return _multiplied(web, web[0] - 1)


def is_two_way(web):
    """Whether a web has a way back for each of its ways."""
    return turned(web) == web


def _multiplied(web, factor):
    halls, steps = web
    return halls, tuple(sorted([step * factor % halls for step in steps]))
