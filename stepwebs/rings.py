"""Orders of the halls along which a net is a web."""

from stepwebs.checks import check_net, is_order
from stepwebs.nets import is_even, join_table


def ring(net):
    """An order of the halls along which a net is a web, None without any."""
    # To lead each hall to the next one on a ring is a symmetry, so only an even net has a ring.
    if not is_even(net):
        return None
    # A ring that begins at another hall is a ring, too.
    return _completed(join_table(net), (0,))


def shows_ring(net, value):
    """Whether a value is what ring may return for a net."""
    if value is None:
        return ring(net) is None
    return steps_along(net, value) is not None


def steps_along(net, order):
    """The steps of the web that a net is along an order, None if it is none along it."""
    check_net(net)
    halls, ways = net
    if not is_order(order, halls):
        return None
    steps = tuple([place for place in range(1, halls) if (order[0], order[place]) in ways])
    return steps if _ways_along(order, steps) == ways else None


def _ways_along(order, steps):
    """The ways of the net that has these steps along an order."""
    halls = len(order)
    ways = [(order[at], order[(at + step) % halls]) for at in range(halls) for step in steps]
    return tuple(sorted(ways))


def _completed(table, order):
    """A ring of an even net that begins with an order of some halls, None without any."""
    if len(order) == len(table):
        return order
    for hall in range(len(table)):
        longer = (*order, hall)
        if hall not in order and _last_fits(table, longer):
            found = _completed(table, longer)
            if found is not None:
                return found
    return None


def _last_fits(table, order):
    """Whether each hall ahead is joined to the last one as the first hall is to that so many places on."""
    last = order[-1]
    place = len(order) - 1
    # Round the end nothing has to be checked. From a hall to the next one in the order, one join
    # to a later hall is lost and one to an earlier hall is gained, as many places on, round; in
    # an even net these two are the same, because all halls have as many joins of each manner.
    return all([table[order[at]][last] == table[order[0]][order[place - at]] for at in range(1, place)])
