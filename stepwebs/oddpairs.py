"""Webs that are alike, but no multiples."""

from itertools import combinations

from stepwebs.checks import check_number, is_pair
from stepwebs.counts import least_webs
from stepwebs.nets import are_alike, net_of
from stepwebs.webs import are_multiples, is_web

MOST_HALLS_OF_PAIRS = 10


def odd_pair(halls):
    """Two webs of so many halls that are alike and no multiples, None without any."""
    check_number(halls, 2, MOST_HALLS_OF_PAIRS)
    # What is alike to a web is alike to its multiples.
    least = least_webs(halls)
    for many in range(halls):
        # Alike webs have as many steps.
        webs = [web for web in least if len(web[1]) == many]
        for one, other in combinations(webs, 2):
            if are_alike(net_of(one), net_of(other)):
                return one, other
    return None


def shows_odd_pair(halls, value):
    """Whether a value is what odd_pair may return for so many halls."""
    check_number(halls, 2, MOST_HALLS_OF_PAIRS)
    if value is None:
        return odd_pair(halls) is None
    return _are_webs_of(value, halls) and _are_odd(value)


def _are_webs_of(value, halls):
    return is_pair(value) and all([is_web(web) and web[0] == halls for web in value])


def _are_odd(pair):
    one, other = pair
    return not are_multiples(one, other) and are_alike(net_of(one), net_of(other))
