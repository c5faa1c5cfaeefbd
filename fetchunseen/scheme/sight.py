"""What lots of houses see of the coins, and whether it tells wishes from one another."""

from itertools import combinations

from fetchunseen.base.checks import is_ascending, is_between, is_same
from fetchunseen.base.fractions import lowest
from fetchunseen.base.rows import relations_at
from fetchunseen.books.library import part_at
from fetchunseen.lots.lots import is_within_any
from fetchunseen.scheme.schemes import check_coin, check_lot, check_scheme, check_scheme_lots, check_wish, sums_at

NO_SHARE = (0, 1)


def sight_of(scheme, asks, lot):
    """What the houses of the lot see of a coin that asks this."""
    if not scheme.is_mixed:
        return tuple([asks[house] for house in lot])
    counts = tuple([len(asks[house]) for house in lot])
    sums = sums_at(asks, lot)
    bases = []
    for book in range(scheme.books):
        bases.append(relations_at(scheme.prime, [part_at(scheme.length, row, book) for row in sums]))
    return (counts, tuple(bases))


def shares_of(scheme, wish, lot):
    """The dict that tells for each sight that comes its share; ascending."""
    counted = {}
    for times, asks in scheme.wishes[wish]:
        seen = sight_of(scheme, asks, lot)
        counted[seen] = counted.get(seen, 0) + times
    every = sum(list(counted.values()))
    return {seen: lowest(counted[seen], every) for seen in sorted(counted)}


def unlike_sight(first, others):
    """A sight with unlike shares, or None."""
    # All shares come to 1 in both, so if they are unlike, some of the first are.
    for seen in first:
        if others.get(seen, NO_SHARE) != first[seen]:
            return seen
    return None


def seen_by(scheme, lot):
    """The paper that the lot sees two wishes, or None."""
    first = shares_of(scheme, 0, lot) if scheme.books > 1 else {}
    for wish in range(1, scheme.books):
        found = unlike_sight(first, shares_of(scheme, wish, lot))
        if found is not None:
            return ("seen", lot, 0, wish, found)
    return None


def seen_paper(scheme, lots):
    """The paper of the first of the lots that sees, or that none does."""
    for lot in lots:
        found = seen_by(scheme, lot)
        if found is not None:
            return found
    return ("unseen",)


def sight(scheme, wish, coin, lot):
    """What the houses of the lot together see of the coin."""
    check_coin(scheme, wish, coin)
    check_lot(scheme, lot)
    return sight_of(scheme, scheme.wishes[wish][coin][1], lot)


def shares(scheme, wish, lot):
    """The pairs of each sight that comes for the wish and its share, ascending."""
    check_wish(scheme, wish)
    check_lot(scheme, lot)
    return tuple(list(shares_of(scheme, wish, lot).items()))


def seen_answer(scheme, lots):
    """A lot, two wishes and a sight of unlike shares; or that the scheme is unseen."""
    check_scheme_lots(scheme, lots)
    return seen_paper(scheme, lots)


def share_at(scheme, wish, lot, value):
    """The share of what is told as a sight, 0 if it does not come."""
    for seen, share in shares_of(scheme, wish, lot).items():
        if is_same(value, seen):
            return share
    return NO_SHARE


def is_seeing(scheme, lots, value):
    """Whether the value tells one of the lots, two wishes, and a sight of unlike shares."""
    if not isinstance(value, tuple) or len(value) != 5 or value[0] != "seen":
        return False
    lot, one, other = value[1:4]
    if not is_ascending(lot, scheme.houses) or lot not in lots:
        return False
    if not is_between(one, 0, scheme.books - 1) or not is_between(other, one + 1, scheme.books - 1):
        return False
    return share_at(scheme, one, lot, value[4]) != share_at(scheme, other, lot, value[4])


def is_seen_paper(scheme, lots, value):
    """Whether the value is what seen_answer can return, for a scheme and lots of its houses."""
    if isinstance(value, tuple) and len(value) == 1 and value[0] == "unseen":
        return seen_paper(scheme, lots) == ("unseen",)
    return is_seeing(scheme, lots, value)


def is_seen_answer(scheme, lots, value):
    """Whether the value is what seen_answer can return."""
    check_scheme_lots(scheme, lots)
    return is_seen_paper(scheme, lots, value)


def is_unseen(scheme, lots):
    """Whether none of the lots sees any two wishes."""
    check_scheme_lots(scheme, lots)
    return seen_paper(scheme, lots) == ("unseen",)


def blind_lots(scheme, many, blind):
    """The lots of so many houses that see nothing, if all smaller ones that do not are told."""
    found = []
    for lot in combinations(range(scheme.houses), many):
        # Where a lot within it sees, this one does; only else it is looked at.
        within = [lot[:at] + lot[at + 1:] for at in range(many)]
        if all([smaller in blind for smaller in within]) and seen_by(scheme, lot) is None:
            found.append(lot)
    return found


def greatest_unseen(scheme):
    """All lots that see no two wishes and are within no other such lot, ascending."""
    check_scheme(scheme)
    everyone = tuple(range(scheme.houses))
    if seen_by(scheme, everyone) is None:
        return (everyone,)
    blind = []
    for many in range(scheme.houses):
        blind = blind + blind_lots(scheme, many, blind)
    greatest = [lot for lot in blind if not is_within_any(lot, [other for other in blind if other != lot])]
    return tuple(sorted(greatest))
