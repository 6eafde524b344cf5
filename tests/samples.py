"""Values and slow, plain answers that the tests hold the program against."""

from itertools import combinations, permutations

from stepwebs.errors import WebError

# Values that are no web, each with the word for the first thing that is wrong.
BAD_WEBS = [
    (None, "whole"),
    (True, "whole"),
    (5, "whole"),
    ("", "whole"),
    ("75", "whole"),
    ((), "whole"),
    ((5,), "whole"),
    ((5, (1,), ()), "whole"),
    ([5, (1,)], "whole"),
    ([5, [1]], "whole"),
    ({5: (1,), 7: (2,)}, "whole"),
    ((1, ()), "halls"),
    ((0, ()), "halls"),
    ((-5, (1,)), "halls"),
    ((14, (1,)), "halls"),
    ((10**40, ()), "halls"),
    ((True, ()), "halls"),
    ((False, ()), "halls"),
    ((None, ()), "halls"),
    (("5", (1,)), "halls"),
    (((5,), (1,)), "halls"),
    (([5], (1,)), "halls"),
    (({}, (1,)), "halls"),
    ((1, None), "halls"),
    ((14, [3, 2]), "halls"),
    ((True, True), "halls"),
    ((5, [1]), "steps"),
    ((5, []), "steps"),
    ((5, {}), "steps"),
    ((5, {1: 1}), "steps"),
    ((5, None), "steps"),
    ((5, 1), "steps"),
    ((5, True), "steps"),
    ((5, "1"), "steps"),
    ((5, ""), "steps"),
    ((5, (0,)), "steps"),
    ((5, (-1, 1)), "steps"),
    ((5, (5,)), "steps"),
    ((5, (1, 6)), "steps"),
    ((13, (13,)), "steps"),
    ((5, (True,)), "steps"),
    ((5, (True, 2)), "steps"),
    ((5, (False, 2)), "steps"),
    ((5, (None,)), "steps"),
    ((5, ("1",)), "steps"),
    ((5, ((1,),)), "steps"),
    ((5, ([1],)), "steps"),
    ((5, ({},)), "steps"),
    ((5, (1, "2")), "steps"),
    ((5, (2, 1)), "steps"),
    ((5, (1, 3, 2)), "steps"),
    ((5, (1, 1)), "steps"),
    ((5, (1, 2, 2)), "steps"),
    ((2, (2,)), "steps"),
]

# Values that are no net, each with the word for the first thing that is wrong.
BAD_NETS = [
    (None, "whole"),
    (False, "whole"),
    (3, "whole"),
    ("ab", "whole"),
    ((), "whole"),
    ((3,), "whole"),
    ((3, (), ()), "whole"),
    ([3, ()], "whole"),
    ({3: (), 4: ()}, "whole"),
    ((0, ()), "halls"),
    ((-1, ()), "halls"),
    ((14, ()), "halls"),
    ((10**40, ()), "halls"),
    ((True, ()), "halls"),
    ((False, ()), "halls"),
    ((None, ()), "halls"),
    (("3", ()), "halls"),
    (((3,), ()), "halls"),
    (([], ()), "halls"),
    ((0, None), "halls"),
    ((14, [(0, 0)]), "halls"),
    ((3, None), "ways"),
    ((3, 0), "ways"),
    ((3, True), "ways"),
    ((3, "01"), "ways"),
    ((3, ""), "ways"),
    ((3, []), "ways"),
    ((3, [(0, 1)]), "ways"),
    ((3, {}), "ways"),
    ((3, {(0, 1): 1}), "ways"),
    ((3, (0, 1)), "ways"),
    ((3, (None,)), "ways"),
    ((3, ("01",)), "ways"),
    ((3, ([0, 1],)), "ways"),
    ((3, ({0: 1, 1: 0},)), "ways"),
    ((3, ((),)), "ways"),
    ((3, ((0,),)), "ways"),
    ((3, ((0, 1, 2),)), "ways"),
    ((3, ((0, 3),)), "ways"),
    ((3, ((3, 0),)), "ways"),
    ((3, ((-1, 0),)), "ways"),
    ((3, ((0, -1),)), "ways"),
    ((3, ((0, True),)), "ways"),
    ((3, ((False, 1),)), "ways"),
    ((3, ((0, None),)), "ways"),
    ((3, ((0, "1"),)), "ways"),
    ((3, (([0], 1),)), "ways"),
    ((3, ((0, 0),)), "ways"),
    ((3, ((0, 1), (2, 2))), "ways"),
    ((3, ((0, 2), (0, 1))), "ways"),
    ((3, ((1, 0), (0, 1))), "ways"),
    ((3, ((0, 1), (0, 1))), "ways"),
    ((3, ((0, 1), (0, 2), (0, 2))), "ways"),
    ((1, ((0, 0),)), "ways"),
    ((1, ((0, 1),)), "ways"),
]

GOOD_WEBS = [
    (2, ()),
    (2, (1,)),
    (3, (1,)),
    (5, (2, 3)),
    (6, (2, 3)),
    (7, (1, 2, 4)),
    (8, (1, 2, 5)),
    (12, (1, 4, 9, 11)),
    (13, ()),
    (13, (1, 3, 9)),
    (13, tuple(range(1, 13))),
]

GOOD_NETS = [
    (1, ()),
    (2, ()),
    (2, ((1, 0),)),
    (2, ((0, 1), (1, 0))),
    (3, ((0, 1), (0, 2))),
    (3, ((0, 1), (1, 2), (2, 0))),
    (4, ((0, 2), (1, 3), (2, 1), (3, 0))),
    (13, ()),
    (13, ((12, 0), (12, 11))),
    (13, tuple(permutations(range(13), 2))),
]

# Values that are no order of the halls 0, 1 and 2.
NO_ORDERS_OF_THREE = [
    (0, 1),
    (0, 1, 2, 3),
    (0, 1, 2, 0),
    (0, 1, 1),
    (0, 0, 0),
    (0, 1, 3),
    (1, 2, 3),
    (-1, 0, 1),
    [0, 1, 2],
    [2, 1, 0],
    {0: 0, 1: 1, 2: 2},
    "012",
    ("0", "1", "2"),
    (0, True, 2),
    (False, 1, 2),
    (0, 1, None),
    (0, 1, "2"),
    (0, 1, (2,)),
    (0, 1, [2]),
    (0, 1, {}),
    ((0, 1, 2),),
    (((0, 1, 2),),),
    ((0, 1, 2), (0, 1, 2)),
    ((0,), (1,), (2,)),
    ([0], [1], [2]),
    (0, 1, -1),
    (False, True, 2),
    ((0, 1, 2), None),
    10**40,
]

# Of each kind of value some, for arguments that may be anything.
ANY_VALUES = [
    None,
    True,
    False,
    0,
    1,
    -1,
    3,
    14,
    10**40,
    "",
    "1",
    "halls 5",
    (),
    (0,),
    (None,),
    (True, 0),
    ([], {}),
    ((), ((), ())),
    [],
    [0, 1],
    [[1], (2,), {"a": None}],
    {},
    {0: 1},
    {"halls": [1, 2]},
]


def outcome(function, *args):
    """What a call gives: its value, or the class and the fields of its error."""
    try:
        return "value", function(*args)
    except WebError as error:
        return type(error).__name__, vars(error)


def all_webs(halls):
    """All webs of so many halls."""
    return [
        (halls, steps)
        for many in range(halls)
        for steps in combinations(range(1, halls), many)
    ]


def all_nets(halls):
    """All nets of so many halls."""
    pairs = list(permutations(range(halls), 2))
    return [
        (halls, tuple(pair for at, pair in enumerate(pairs) if number >> at & 1))
        for number in range(2 ** len(pairs))
    ]


def led(net, order):
    """The net in which each hall has the name that the order gives it."""
    halls, ways = net
    return halls, tuple(sorted((order[start], order[end]) for start, end in ways))


def likenesses(one, other):
    """All likenesses between two nets, by trying all orders of the halls."""
    found = []
    for order in permutations(range(one[0])):
        pairs = permutations(range(one[0]), 2)
        if all(((a, b) in one[1]) == ((order[a], order[b]) in other[1]) for a, b in pairs):
            found.append(order)
    return found


def mixed(halls, seed):
    """Some order of so many halls, the same one for the same seed."""
    order = list(range(halls))
    for at in range(halls - 1, 0, -1):
        seed = (seed * 1103515245 + 12345) % 2**31
        other = (seed >> 8) % (at + 1)
        order[at], order[other] = order[other], order[at]
    return tuple(order)


def two_way_net(halls, edges):
    """The net with both ways between each of the pairs."""
    return halls, tuple(sorted({(a, b) for a, b in edges} | {(b, a) for a, b in edges}))


def circles(*sizes):
    """The pairs of neighbours in circles of these sizes, one behind the other."""
    edges = []
    first = 0
    for size in sizes:
        edges += [(first + at, first + (at + 1) % size) for at in range(size)]
        first += size
    return edges


PETERSEN = two_way_net(
    10,
    circles(5) + [(5 + at, 5 + (at + 2) % 5) for at in range(5)] + [(at, at + 5) for at in range(5)],
)
