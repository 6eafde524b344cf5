"""What makes a value a number, a prime, a web, a net or an order of halls."""

from stepwebs.errors import BadNet, BadNumber, BadWeb, NotPrime

MOST_HALLS = 13


def is_number(value, low, high):
    """Whether a value is an integer from low to high."""
    # isinstance takes True and False for integers, the document does not.
    return isinstance(value, int) and not isinstance(value, bool) and low <= value <= high


def check_number(value, low, high):
    """Raise BadNumber unless a value is an integer from low to high."""
    if not is_number(value, low, high):
        raise BadNumber(f"no integer from {low} to {high}")


def check_prime(number):
    """Raise NotPrime unless an integer from 2 on is a prime."""
    if any([number % divisor == 0 for divisor in range(2, number)]):
        raise NotPrime("no prime")


def is_pair(value):
    """Whether a value is a tuple of two values."""
    return isinstance(value, tuple) and len(value) == 2


def is_order(value, halls):
    """Whether a value is a tuple of all halls, each of them once."""
    if not isinstance(value, tuple) or len(value) != halls:
        return False
    # Only integers go into the set: not every value can be a member of one.
    return all([is_number(hall, 0, halls - 1) for hall in value]) and len(set(value)) == halls


def wrong_in_web(value):
    """The word for the first thing that is wrong with a web, "" for none."""
    if not is_pair(value):
        return "whole"
    halls, steps = value
    if not is_number(halls, 2, MOST_HALLS):
        return "halls"
    if not _are_steps(steps, halls):
        return "steps"
    return ""


def check_web(value):
    """Raise BadWeb unless a value is a web."""
    wrong = wrong_in_web(value)
    if wrong != "":
        raise BadWeb(wrong)


def wrong_in_net(value):
    """The word for the first thing that is wrong with a net, "" for none."""
    if not is_pair(value):
        return "whole"
    halls, ways = value
    if not is_number(halls, 1, MOST_HALLS):
        return "halls"
    if not _are_ways(ways, halls):
        return "ways"
    return ""


def check_net(value):
    """Raise BadNet unless a value is a net."""
    wrong = wrong_in_net(value)
    if wrong != "":
        raise BadNet(wrong)


def _are_steps(value, halls):
    if not isinstance(value, tuple) or not all([is_number(step, 1, halls - 1) for step in value]):
        return False
    return _ascends(value)


def _are_ways(value, halls):
    if not isinstance(value, tuple) or not all([_is_way(way, halls) for way in value]):
        return False
    return _ascends(value)


def _is_way(value, halls):
    if not is_pair(value):
        return False
    start, end = value
    return is_number(start, 0, halls - 1) and is_number(end, 0, halls - 1) and start != end


def _ascends(row):
    return all([low < high for low, high in zip(row, row[1:])])
