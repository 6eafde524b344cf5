"""The symmetries of webs that multiply by a factor and add a number, and all others."""

from stepwebs.checks import check_prime, check_web
from stepwebs.nets import count_symmetries, net_of
from stepwebs.webs import factors, times


def keepers(web):
    """The factors by which a web is its own multiple, ascending."""
    check_web(web)
    return tuple([factor for factor in factors(web[0]) if times(web, factor) == web])


def count_plain(web):
    """How many symmetries of a web's net are plain."""
    check_web(web)
    # To multiply and add is a symmetry exactly if to multiply is one; no two such maps are alike.
    return web[0] * len(keepers(web))


def is_plain(web):
    """Whether all symmetries of a web's net are plain."""
    return count_symmetries(net_of(web)) == count_plain(web)


def symmetries(web):
    """How many symmetries the net of a web of a prime number of halls has."""
    check_web(web)
    check_prime(web[0])
    return count_symmetries(net_of(web))
