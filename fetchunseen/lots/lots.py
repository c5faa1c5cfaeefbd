"""Lots of houses: which are within which, and how they are exchanged and spread."""

from itertools import combinations

from fetchunseen.base.checks import check_between, is_ascending, is_between, is_order
from fetchunseen.errors import InvalidLots, InvalidOperation, TooMany

MOST_HOUSES = 6
MOST_LOTS = 12


def check_houses(houses):
    """Refuse what is no number of houses."""
    check_between(houses, 1, MOST_HOUSES)


def are_lots(houses, value):
    """Whether the value is lots, for a number of houses that is one."""
    if not isinstance(value, tuple) or len(value) > MOST_LOTS:
        return False
    if not all([is_ascending(lot, houses) for lot in value]):
        return False
    return all([one < other for one, other in zip(value, value[1:])])


def check_lots(houses, lots):
    """Refuse what is no lots of the houses."""
    if not are_lots(houses, lots):
        raise InvalidLots("at most 12 ascending lots are wanted")


def check_housed(houses, lots):
    """Refuse what is no number of houses, or no lots of them."""
    check_houses(houses)
    check_lots(houses, lots)


def is_within(lot, other):
    """Whether the other lot has each house of the lot."""
    return all([house in other for house in lot])


def is_within_any(lot, others):
    """Whether the lot is within one of the others."""
    return any([is_within(lot, other) for other in others])


def free_in(houses, lots):
    """The free houses, without checks."""
    return tuple([house for house in range(houses) if not is_within_any((house,), lots)])


def is_lots(houses, value):
    """Whether the value is lots of these houses."""
    check_houses(houses)
    return are_lots(houses, value)


def greatest_lots(houses, lots):
    """The lots that are within no other one of them."""
    check_housed(houses, lots)
    return tuple([lot for lot in lots if not is_within_any(lot, [other for other in lots if other != lot])])


def free_houses(houses, lots):
    """The houses that are in no lot."""
    check_housed(houses, lots)
    return free_in(houses, lots)


def lone_lots(houses):
    """The lots of one house each."""
    check_houses(houses)
    return tuple([(house,) for house in range(houses)])


def all_lots(houses, most):
    """All lots of just so many houses."""
    check_houses(houses)
    check_between(most, 0, houses)
    found = tuple(combinations(range(houses), most))
    if len(found) > MOST_LOTS:
        raise TooMany(MOST_LOTS)
    return found


def are_within(houses, lots, others):
    """Whether each lot is within one of the others."""
    check_housed(houses, lots)
    check_lots(houses, others)
    return all([is_within_any(lot, others) for lot in lots])


def exchanged_lots(houses, lots, order):
    """The lots in which house n has got the number order[n]."""
    check_housed(houses, lots)
    if not is_order(order, houses):
        raise InvalidOperation("a tuple of all houses, each once, is wanted")
    return tuple(sorted([tuple(sorted([order[house] for house in lot])) for lot in lots]))


def are_spread(houses, value):
    """Whether the value tells for each house how many new ones it stands for."""
    if not isinstance(value, tuple) or len(value) != houses:
        return False
    if not all([is_between(many, 0, MOST_HOUSES) for many in value]):
        return False
    return 1 <= sum(value) <= MOST_HOUSES


def pieces_by(parts, values):
    """The values in neighbouring pieces, each as long as its part tells."""
    pieces = []
    first = 0
    for many in parts:
        pieces.append(values[first:first + many])
        first = first + many
    return pieces


def new_lot(lot, parts):
    """The ascending tuple of the new houses for which the houses of the lot stand."""
    pieces = pieces_by(parts, list(range(sum(parts))))
    found = []
    for house in lot:
        found.extend(pieces[house])
    return tuple(found)


def spread_lots(houses, lots, parts):
    """The lots for which the lots stand, each once."""
    check_housed(houses, lots)
    if not are_spread(houses, parts):
        raise InvalidOperation("0 to 6 new houses for each house, 1 to 6 in all, are wanted")
    return tuple(sorted(set([new_lot(lot, parts) for lot in lots])))
