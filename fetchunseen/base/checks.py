"""Which values are integers, within which bounds, and which tuples ascend."""

from fetchunseen.errors import InvalidNumber

TOO_LONG = 10 ** 60


def is_whole(value):
    """Whether the value is an integer, of any length."""
    # For Python a bool is an int, too.
    return isinstance(value, int) and not isinstance(value, bool)


def is_integer(value):
    """Whether the value is an integer of at most sixty digits."""
    return is_whole(value) and -TOO_LONG < value < TOO_LONG


def is_between(value, least, most):
    """Whether the value is an integer within the bounds."""
    return is_whole(value) and least <= value <= most


def check_between(value, least, most):
    """Refuse what is no integer within the bounds."""
    if not is_between(value, least, most):
        raise InvalidNumber(value)


def is_ascending(value, many):
    """Whether the value is an ascending tuple of integers from 0 to many - 1."""
    if not isinstance(value, tuple):
        return False
    if not all([is_between(number, 0, many - 1) for number in value]):
        return False
    return all([one < other for one, other in zip(value, value[1:])])


def is_order(value, many):
    """Whether the value is a tuple of the integers from 0 to many - 1, each once."""
    if not isinstance(value, tuple) or not all([is_whole(number) for number in value]):
        return False
    return sorted(value) == list(range(many))


def is_same(value, wanted):
    """Whether the value is just this one, made of integers and tuples of them."""
    # For Python True equals 1, so what looks equal is asked for its kinds, too.
    if isinstance(wanted, tuple):
        if not isinstance(value, tuple) or len(value) != len(wanted):
            return False
        return all([is_same(some, own) for some, own in zip(value, wanted)])
    return is_whole(value) and value == wanted
