"""The chain of ranks that shows how few letters can come, and what a scheme is."""

from fetchunseen.base.checks import is_ascending, is_same
from fetchunseen.base.fractions import mean_number, total
from fetchunseen.base.rows import rank_at
from fetchunseen.books.library import in_one, parts_at
from fetchunseen.bound.least import scale_of
from fetchunseen.errors import InvalidOperation, Refused
from fetchunseen.lots.lots import free_in
from fetchunseen.lots.weights import are_covering, weights_answer
from fetchunseen.scheme.right import is_paper_of, is_right_scheme, paper_of
from fetchunseen.scheme.schemes import check_lot, check_scheme_lots, check_wish, mean_of_wish, sums_at
from fetchunseen.scheme.sight import is_seen_paper, seen_paper

# All but what checks in its first statement takes what is known to fit, without checks.


def rank_left(scheme, sums, gone):
    """The rank of the sums beside the books that are gone."""
    rows = []
    for row in sums:
        parts = parts_at(scheme.books, row)
        rows.append(in_one([parts[book] for book in range(scheme.books) if book not in gone]))
    return rank_at(scheme.prime, rows)


def mean_rank_of(scheme, wish, lot, gone):
    """The mean rank of the lot's sums beside the books that are gone."""
    ranks = [(times, rank_left(scheme, sums_at(asks, lot), gone)) for times, asks in scheme.wishes[wish]]
    return mean_number(ranks)


def mean_rank(scheme, wish, lot, gone):
    """The mean rank of the lot's sums beside the books that are gone."""
    check_wish(scheme, wish)
    check_lot(scheme, lot)
    if not is_ascending(gone, scheme.books):
        raise InvalidOperation("an ascending tuple of books is wanted")
    return mean_rank_of(scheme, wish, lot, gone)


def step_of(scheme, lots, order, at):
    """The step of the wish order[at]: its whole, its rest and its numbers."""
    wish = order[at]
    everyone = tuple(range(scheme.houses))
    gone = order[:at + 1]
    whole = mean_rank_of(scheme, wish, everyone, order[:at])
    rest = mean_rank_of(scheme, wish, everyone, gone)
    return (whole, rest, tuple([mean_rank_of(scheme, wish, lot, gone) for lot in lots]))


def steps_of(scheme, lots, wish):
    """The steps of the chain of the wish."""
    order = [wish] + [book for book in range(scheme.books) if book != wish]
    return tuple([step_of(scheme, lots, order, at) for at in range(scheme.books)])


def chain_for(scheme, lots, wish):
    """The chain of a right, unseen scheme, if no house is free."""
    return ("chain", weights_answer(scheme.houses, lots)[3], steps_of(scheme, lots, wish))


def is_chain_for(scheme, lots, wish, value):
    """Whether the value is a chain of a right, unseen scheme, if no house is free."""
    if not isinstance(value, tuple) or len(value) != 3 or value[0] != "chain":
        return False
    if not are_covering(scheme.houses, lots, value[1]):
        return False
    if total(value[1]) != scale_of(scheme.houses, lots):
        return False
    return is_same(value[2], steps_of(scheme, lots, wish))


def check_chained(scheme, lots, wish):
    """Refuse what has no chain."""
    check_scheme_lots(scheme, lots)
    check_wish(scheme, wish)
    if not is_right_scheme(scheme):
        raise Refused(("wrong",))
    if seen_paper(scheme, lots) != ("unseen",):
        raise Refused(("seen",))
    free = free_in(scheme.houses, lots)
    if free:
        raise Refused(("free", free[0]))


def chain_of(scheme, lots, wish):
    """A cover with the sum s, and the steps from wish to wish."""
    check_chained(scheme, lots, wish)
    return chain_for(scheme, lots, wish)


def is_chain(scheme, lots, wish, value):
    """Whether the value is what chain_of can return."""
    check_chained(scheme, lots, wish)
    return is_chain_for(scheme, lots, wish, value)


def means_of(scheme):
    """The means of all wishes."""
    return tuple([mean_of_wish(scheme, wish) for wish in range(scheme.books)])


def costs_of(scheme, lots):
    """What a right, unseen scheme costs, and the chains that show that it cannot be less."""
    if free_in(scheme.houses, lots):
        return ("costs", means_of(scheme), ())
    return ("costs", means_of(scheme), tuple([chain_for(scheme, lots, wish) for wish in range(scheme.books)]))


def are_chains(scheme, lots, value):
    """Whether the value is a chain for each wish, or () if a house is free."""
    if free_in(scheme.houses, lots):
        return value == ()
    if not isinstance(value, tuple) or len(value) != scheme.books:
        return False
    return all([is_chain_for(scheme, lots, wish, chain) for wish, chain in enumerate(value)])


def is_cost(scheme, lots, value):
    """Whether the value tells what a right, unseen scheme costs."""
    if not isinstance(value, tuple) or len(value) != 3 or value[0] != "costs":
        return False
    return is_same(value[1], means_of(scheme)) and are_chains(scheme, lots, value[2])


def verdict(scheme, lots):
    """That the scheme is wrong, or that it is seen, or what it costs."""
    check_scheme_lots(scheme, lots)
    paper = paper_of(scheme)
    if paper[0] == "wrong":
        return paper
    found = seen_paper(scheme, lots)
    return costs_of(scheme, lots) if found == ("unseen",) else found


def is_verdict(scheme, lots, value):
    """Whether the value is what verdict can return."""
    check_scheme_lots(scheme, lots)
    if not is_right_scheme(scheme):
        return is_paper_of(scheme, value)
    if seen_paper(scheme, lots) != ("unseen",):
        return is_seen_paper(scheme, lots, value)
    return is_cost(scheme, lots, value)
