"""Claims of every kind, and one judge of the papers that show them."""

from fetchunseen.base.checks import is_between
from fetchunseen.base.fields import is_prime
from fetchunseen.base.fractions import is_fraction, product_of_two
from fetchunseen.base.ranks import is_rank_paper, rank_paper
from fetchunseen.base.rows import MOST_WIDTH, is_parts_or_look, is_row, is_rows, parts_or_look, width_of
from fetchunseen.bound.chain import is_verdict, verdict
from fetchunseen.bound.least import MOST_BOOKS, least_for_one
from fetchunseen.errors import InvalidClaim
from fetchunseen.lots.lots import MOST_HOUSES, are_lots
from fetchunseen.lots.weights import is_weights_answer, weights_answer
from fetchunseen.scheme.right import is_right_answer, right_answer
from fetchunseen.scheme.schemes import Scheme, scheme_fault
from fetchunseen.scheme.sight import is_seen_answer, seen_answer
from fetchunseen.scheme.tables import alike_answer, is_alike_answer, is_wide_rows

WORDS = (
    ("rank", "unrank"), ("made", "unmade"), ("alike", "unlike"), ("scale", "unscale"),
    ("least", "unleast"), ("right", "wrong"), ("unseen", "seen"), ("fine", "unfit"),
)

# Of each kind of claim: whether a tuple is what such a claim is about.


def is_about_rank(about):
    """A prime, rows, and a number."""
    if len(about) != 3 or not is_prime(about[0]):
        return False
    return is_rows(about[0], about[1]) and is_between(about[2], 0, MOST_WIDTH)


def is_about_made(about):
    """A prime, rows, and a goal as wide as they are."""
    if len(about) != 3 or not is_prime(about[0]):
        return False
    prime, rows, goal = about
    return is_rows(prime, rows) and is_row(prime, goal) and (not rows or width_of(rows) == len(goal))


def is_about_alike(about):
    """A prime, a width, and twice equally many rows of it."""
    if len(about) != 4 or not is_prime(about[0]) or not is_between(about[1], 1, MOST_WIDTH):
        return False
    prime, width, one, other = about
    if not is_wide_rows(prime, width, one) or not is_wide_rows(prime, width, other):
        return False
    return len(one) == len(other)


def are_housed(houses, lots):
    """Whether these are a number of houses, and lots of them."""
    return is_between(houses, 1, MOST_HOUSES) and are_lots(houses, lots)


def is_about_scale(about):
    """A number of houses, lots, and a fraction."""
    return len(about) == 3 and are_housed(about[0], about[1]) and is_fraction(about[2])


def is_about_least(about):
    """A number of houses, lots, numbers of books and of letters, and a fraction."""
    if len(about) != 5 or not are_housed(about[0], about[1]):
        return False
    if not is_between(about[2], 1, MOST_BOOKS) or not is_between(about[3], 1, MOST_WIDTH):
        return False
    return is_fraction(about[4])


def is_told_scheme(value):
    """Whether the value is the six values of a scheme."""
    if not isinstance(value, tuple) or len(value) != 6:
        return False
    prime, houses, books, length, is_mixed, wishes = value
    return scheme_fault(prime, houses, books, length, is_mixed, wishes) is None


def is_about_scheme(about):
    """A scheme, told by its six values."""
    return len(about) == 1 and is_told_scheme(about[0])


def is_about_scheme_lots(about):
    """A scheme, told by its six values, and lots of its houses."""
    return len(about) == 2 and is_told_scheme(about[0]) and are_lots(about[0][1], about[1])


FORMS = (
    is_about_rank, is_about_made, is_about_alike, is_about_scale,
    is_about_least, is_about_scheme, is_about_scheme_lots, is_about_scheme_lots,
)

# Of each kind of claim: any paper for it, or for its opposite.


def scheme_told(told):
    """The scheme of the six values."""
    prime, houses, books, length, is_mixed, wishes = told
    return Scheme(prime, houses, books, length, is_mixed, wishes)


def paper_of_rank(about):
    """A paper of the rank."""
    return rank_paper(about[0], about[1])


def paper_of_made(about):
    """Parts, or a look."""
    return parts_or_look(about[0], about[1], about[2])


def paper_of_alike(about):
    """A table, or a relation."""
    return alike_answer(about[0], about[1], about[2], about[3])


def paper_of_weights(about):
    """Weights and a cover, or a free house."""
    return weights_answer(about[0], about[1])


def paper_of_right(about):
    """Readings, or a row."""
    return right_answer(scheme_told(about[0]))


def paper_of_seen(about):
    """That no lot sees, or which one does."""
    return seen_answer(scheme_told(about[0]), about[1])


def paper_of_verdict(about):
    """A verdict."""
    return verdict(scheme_told(about[0]), about[1])


PAPERS = (
    paper_of_rank, paper_of_made, paper_of_alike, paper_of_weights,
    paper_of_weights, paper_of_right, paper_of_seen, paper_of_verdict,
)

# Of each kind of claim: the word of its pair that the paper shows, None for what is no paper.


def shown_of_rank(about, paper):
    """Whether the paper has as many places as the number."""
    if not is_rank_paper(about[0], about[1], paper):
        return None
    return "rank" if len(paper[1]) == about[2] else "unrank"


def shown_of_made(about, paper):
    """Whether there are parts."""
    if not is_parts_or_look(about[0], about[1], about[2], paper):
        return None
    return "made" if paper[0] == "parts" else "unmade"


def shown_of_alike(about, paper):
    """Whether there is a table."""
    if not is_alike_answer(about[0], about[1], about[2], about[3], paper):
        return None
    return "alike" if paper[0] == "table" else "unlike"


def shown_of_scale(about, paper):
    """Whether the weights have the sum."""
    if not is_weights_answer(about[0], about[1], paper):
        return None
    return "scale" if paper[0] == "weights" and paper[1] == about[2] else "unscale"


def shown_of_least(about, paper):
    """Whether the least mean, by these weights or this free house, is the fraction."""
    if not is_weights_answer(about[0], about[1], paper):
        return None
    s = paper[1] if paper[0] == "weights" else None
    least = product_of_two((about[3], 1), least_for_one(s, about[2]))
    return "least" if least == about[4] else "unleast"


def shown_of_right(about, paper):
    """Whether all coins are right."""
    return paper[0] if is_right_answer(scheme_told(about[0]), paper) else None


def shown_of_seen(about, paper):
    """Whether no lot sees anything."""
    return paper[0] if is_seen_answer(scheme_told(about[0]), about[1], paper) else None


def shown_of_verdict(about, paper):
    """Whether the scheme is neither wrong nor seen."""
    if not is_verdict(scheme_told(about[0]), about[1], paper):
        return None
    return "fine" if paper[0] == "costs" else "unfit"


SHOWN = (
    shown_of_rank, shown_of_made, shown_of_alike, shown_of_scale,
    shown_of_least, shown_of_right, shown_of_seen, shown_of_verdict,
)


def kind_of(word):
    """The place of the pair of words that has this one, or None."""
    for kind, pair in enumerate(WORDS):
        if word == pair[0] or word == pair[1]:
            return kind
    return None


def check_claim(claim):
    """Refuse what is no claim."""
    if not is_claim(claim):
        raise InvalidClaim("a claim is wanted")


def is_claim(value):
    """Whether the value is a claim."""
    if not isinstance(value, tuple) or not value:
        return False
    kind = kind_of(value[0])
    if kind is None:
        return False
    form = FORMS[kind]
    return form(value[1:])


def opposite(claim):
    """The opposite claim."""
    check_claim(claim)
    one, other = WORDS[kind_of(claim[0])]
    return (other if claim[0] == one else one,) + claim[1:]


def takes(claim, paper):
    """Whether the paper shows the claim."""
    check_claim(claim)
    judge = SHOWN[kind_of(claim[0])]
    return judge(claim[1:], paper) == claim[0]


def settled(claim):
    """The claim, or its opposite, whichever is so, and a paper for it."""
    check_claim(claim)
    kind = kind_of(claim[0])
    make = PAPERS[kind]
    judge = SHOWN[kind]
    paper = make(claim[1:])
    return ((judge(claim[1:], paper),) + claim[1:], paper)
