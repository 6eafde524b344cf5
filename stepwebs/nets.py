"""Nets of ways between halls, and the likenesses between nets."""

from stepwebs.checks import check_net, check_web, is_order, wrong_in_net
from stepwebs.errors import Unlike
from stepwebs.webs import ways


def is_net(value):
    """Whether a value is a net."""
    return wrong_in_net(value) == ""


def net_of(web):
    """The net of a web's ways."""
    check_web(web)
    return web[0], ways(web)


def likeness(one, other):
    """The halls to which 0, 1, .. are led by a likeness of two nets, None without any."""
    _check_two(one, other)
    here = join_table(one)
    there = join_table(other)
    places = _places(here, there, _first_rooms(here, there))
    if places is None:
        return None
    return tuple([places[hall] for hall in range(one[0])])


def are_alike(one, other):
    """Whether there is a likeness between two nets."""
    return likeness(one, other) is not None


def shows_likeness(one, other, value):
    """Whether a value is what likeness may return for two nets."""
    _check_two(one, other)
    if value is None:
        return not are_alike(one, other)
    return is_order(value, one[0]) and _led(one, value) == other


def count_symmetries(net):
    """How many symmetries a net has."""
    check_net(net)
    table = join_table(net)
    rooms = _first_rooms(table, table)
    many = 1
    # The symmetries that keep some halls are as many as those that keep one more,
    # times the places to which they lead that one.
    for hall in range(net[0]):
        many *= _count_reached(table, rooms, hall)
        rooms = _rooms_left(table, table, rooms, hall, hall)
    return many


def is_even(net):
    """Whether the symmetries of a net lead each hall to each."""
    check_net(net)
    table = join_table(net)
    # If they lead the hall 0 to each, then by way of 0 they lead each to each.
    return _count_reached(table, _first_rooms(table, table), 0) == net[0]


def join_table(net):
    """For each two halls how they are joined: 1 a way there, 2 a way back, 3 both, 0 none.

    A hall and itself have 4, which no two halls have: so no two halls get one place.
    """
    halls = net[0]
    table = [[0] * halls for _ in range(halls)]
    for start, end in net[1]:
        table[start][end] += 1
        table[end][start] += 2
    for hall in range(halls):
        table[hall][hall] = 4
    return table


def _check_two(one, other):
    check_net(one)
    check_net(other)
    if one[0] != other[0]:
        raise Unlike("unlike numbers of halls")


def _led(net, order):
    """The net to which an order of the halls leads a net."""
    return net[0], tuple(sorted([(order[start], order[end]) for start, end in net[1]]))


def _first_rooms(here, there):
    """For each hall the places that are joined to as many others in each manner."""
    many = len(here)
    return {
        hall: [place for place in range(many) if sorted(there[place]) == sorted(here[hall])]
        for hall in range(many)
    }


def _rooms_left(here, there, rooms, hall, place):
    """The places left to the other halls, once a hall has its place."""
    return {
        other: [room for room in rooms[other] if there[place][room] == here[hall][other]]
        for other in rooms
        if other != hall
    }


def _places(here, there, rooms):
    """A place for each hall that has rooms, by hall, None if not all can be placed."""
    if not rooms:
        return {}
    # A dead end shows soonest at the hall that has the fewest rooms.
    hall = min(rooms, key=lambda each: len(rooms[each]))
    for place in _unlike_places(there, rooms[hall]):
        found = _places(here, there, _rooms_left(here, there, rooms, hall, place))
        if found is not None:
            return {**found, hall: place}
    return None


def _unlike_places(table, places):
    """Some places without those that could be exchanged for an earlier one.

    If a hall has no place that leads on, none that could be exchanged for it does either.
    """
    chosen = []
    for place in places:
        if not any([_are_twins(table, place, earlier) for earlier in chosen]):
            chosen.append(place)
    return chosen


def _are_twins(table, one, other):
    """Whether two halls are joined alike to each other, and alike to each of the rest."""
    if table[one][other] != table[other][one]:
        return False
    rest = [hall for hall in range(len(table)) if hall not in (one, other)]
    return all([table[one][hall] == table[other][hall] for hall in rest])


def _count_reached(table, rooms, hall):
    """To how many places the symmetries within the rooms lead a hall."""
    many = 0
    for place in rooms[hall]:
        if _places(table, table, _rooms_left(table, table, rooms, hall, place)) is not None:
            many += 1
    return many
