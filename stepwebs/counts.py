"""How many unlike webs there are, alike ones counted once."""

from itertools import combinations
from math import comb, gcd

from stepwebs.checks import check_number, check_prime
from stepwebs.webs import least_multiple

MOST_HALLS_OF_COUNTS = 61
MOST_HALLS_OF_LEAST_WEBS = 11


def count_webs(halls):
    """How many unlike webs of a prime number of halls there are."""
    _check_halls(halls)
    return _count_choices(halls - 1)


def count_with(halls, many):
    """How many unlike webs of a prime number of halls have so many steps."""
    _check_halls(halls)
    check_number(many, 0, halls - 1)
    return _count_choices_of(halls - 1, many)


def count_two_way(halls):
    """How many unlike webs of a prime number of halls have a way back for each way."""
    _check_halls(halls)
    # A step and its way back are chosen together; of 2 halls the only step is its own way back.
    return _count_choices(halls // 2)


def least_webs(halls):
    """All webs of so many halls that are the least of their multiples, ascending."""
    check_number(halls, 2, MOST_HALLS_OF_LEAST_WEBS)
    webs = [(halls, steps) for many in range(halls) for steps in combinations(range(1, halls), many)]
    return tuple(sorted([web for web in webs if least_multiple(web) == web]))


def _check_halls(halls):
    check_number(halls, 2, MOST_HALLS_OF_COUNTS)
    check_prime(halls)


# For a prime number of halls the steps can be put on a circle that each factor turns, so webs
# are multiples, and so alike, exactly if the choices of their steps turn into each other. As
# many choices remain as a turn of the circle keeps on average: a turn that comes round after so
# many times keeps the choices that are the same in each of so many parts of the circle.


def _count_choices(places):
    """How many choices of places on a circle there are, no two of which turn into each other."""
    return sum([_count_free(parts) << (places // parts) for parts in _divisors(places)]) // places


def _count_choices_of(places, many):
    """How many choices of so many places on a circle there are, no two of which turn into each other."""
    kept = [
        _count_free(parts) * comb(places // parts, many // parts)
        for parts in _divisors(places)
        if many % parts == 0
    ]
    return sum(kept) // places


def _divisors(number):
    return [divisor for divisor in range(1, number + 1) if number % divisor == 0]


def _count_free(number):
    """How many integers from 1 to a number have no divisor but 1 with it."""
    return len([other for other in range(1, number + 1) if gcd(other, number) == 1])
