"""Weights of houses, covers by lots, and the greatest sum at which they meet."""

from fetchunseen.base.checks import is_whole
from fetchunseen.base.fractions import are_fractions, are_from_zero, is_fraction, lowest, order_of_two, total
from fetchunseen.errors import InvalidFraction, InvalidOperation, Refused, TooMany
from fetchunseen.lots.lots import MOST_LOTS, check_housed, free_in
from fetchunseen.lots.simplex import solved

MOST_PARTS = 6


def borne_by(lot, weights):
    """What the weights of the lot's houses add up to."""
    return total([weights[house] for house in lot])


def cover_at(house, lots, cover):
    """What the fractions of the lots of the house add up to."""
    return total([part for lot, part in zip(lots, cover) if house in lot])


def are_weights(houses, lots, value):
    """Whether the value is weights, for lots that are some."""
    if not are_from_zero(value, houses):
        return False
    return all([order_of_two(borne_by(lot, value), (1, 1)) <= 0 for lot in lots])


def are_covering(houses, lots, value):
    """Whether the value is a cover, for lots that are some."""
    if not are_from_zero(value, len(lots)):
        return False
    return all([order_of_two(cover_at(house, lots, value), (1, 1)) >= 0 for house in range(houses)])


def is_weights(houses, lots, value):
    """Whether the value is weights."""
    check_housed(houses, lots)
    return are_weights(houses, lots, value)


def is_cover(houses, lots, value):
    """Whether the value is a cover."""
    check_housed(houses, lots)
    return are_covering(houses, lots, value)


def sum_of(fractions):
    """What the fractions add up to."""
    if not are_fractions(fractions, MOST_LOTS):
        raise InvalidFraction("at most 12 fractions are wanted")
    return total(fractions)


def lot_sums_of(houses, lots, weights):
    """For each lot what the weights of its houses add up to."""
    check_housed(houses, lots)
    if not are_from_zero(weights, houses):
        raise InvalidOperation("a fraction from 0 on for each house is wanted")
    return tuple([borne_by(lot, weights) for lot in lots])


def weights_answer(houses, lots):
    """Weights and a cover with one sum, or a free house."""
    check_housed(houses, lots)
    free = free_in(houses, lots)
    if free:
        return ("free", free[0])
    told, weight_tops, cover_tops, bottom = solved(houses, lots)
    weights = tuple([lowest(top, bottom) for top in weight_tops])
    cover = tuple([lowest(top, bottom) for top in cover_tops])
    return ("weights", lowest(told, bottom), weights, cover)


def is_meeting(houses, lots, told, weights, cover):
    """Whether these are weights and a cover, both with the told sum."""
    if not is_fraction(told) or not are_weights(houses, lots, weights):
        return False
    return are_covering(houses, lots, cover) and total(weights) == told and total(cover) == told


def is_weights_answer(houses, lots, value):
    """Whether the value is what weights_answer can return."""
    check_housed(houses, lots)
    if not isinstance(value, tuple) or len(value) not in (2, 4):
        return False
    if len(value) == 4:
        return value[0] == "weights" and is_meeting(houses, lots, value[1], value[2], value[3])
    return value[0] == "free" and is_whole(value[1]) and value[1] in free_in(houses, lots)


def spreads(houses, many):
    """All tuples of an integer from 0 on for each house that add up to so many, ascending."""
    if houses == 1:
        return [(many,)]
    return [(first,) + rest for first in range(many + 1) for rest in spreads(houses - 1, many - first)]


def are_borne(lots, parts, most):
    """Whether no lot stands for more parts than the most."""
    return all([sum([parts[house] for house in lot]) <= most for lot in lots])


def parts_of(houses, lots):
    """The least parts of the houses that add up to s times the most, for the least most."""
    check_housed(houses, lots)
    free = free_in(houses, lots)
    if free:
        raise Refused(("free", free[0]))
    answer = solved(houses, lots)
    top, bottom = lowest(answer[0], answer[3])
    # Parts are integers, so the most is a multiple of the bottom of s.
    for many in range(top, MOST_PARTS + 1, top):
        most = many // top * bottom
        for parts in spreads(houses, many):
            if are_borne(lots, parts, most):
                return (parts, most)
    raise TooMany(MOST_PARTS)
