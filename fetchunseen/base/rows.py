"""Rows of letters: spans, ranks, kernels, relations, products and tables."""

from fetchunseen.base.checks import check_between
from fetchunseen.base.fields import are_letters, check_letter, check_prime, inverse_of
from fetchunseen.errors import InvalidOperation, InvalidRow, InvalidRows, Refused

MOST_ROWS = 200
MOST_WIDTH = 100


def is_row(prime, value):
    """Whether the value is a row of letters."""
    return are_letters(prime, value, 1, MOST_WIDTH)


def is_rows(prime, value):
    """Whether the value is rows: at most 200, all of one width."""
    if not isinstance(value, tuple) or len(value) > MOST_ROWS:
        return False
    if not all([is_row(prime, row) for row in value]):
        return False
    return all([len(row) == len(value[0]) for row in value])


def is_row_of(prime, width, value):
    """Whether the value is a row of this width."""
    return are_letters(prime, value, width, width)


def check_row(prime, row):
    """Refuse what is no row."""
    if not is_row(prime, row):
        raise InvalidRow("a row is wanted")


def check_rows(prime, rows):
    """Refuse what is no rows."""
    if not is_rows(prime, rows):
        raise InvalidRows("rows of one width are wanted")


def check_pair(prime, one, other):
    """Refuse what are not two rows of one width."""
    check_prime(prime)
    check_row(prime, one)
    check_row(prime, other)
    if len(one) != len(other):
        raise InvalidOperation("the rows are of unlike widths")


def check_goal(prime, rows, goal):
    """Refuse what are not rows and a goal as wide as they are."""
    check_prime(prime)
    check_rows(prime, rows)
    check_row(prime, goal)
    if rows and width_of(rows) != len(goal):
        raise InvalidOperation("the goal is not as wide as the rows")


def told_at(prime, one, other):
    """What the one row tells at the other one, without checks."""
    return sum([letter * by for letter, by in zip(one, other)]) % prime


def width_of(rows):
    """The width of the rows, 0 if there are none."""
    return len(rows[0]) if rows else 0


def columns_of(rows):
    """The columns of rows of one width; none if there are no rows."""
    return [tuple(column) for column in zip(*rows)]


def put_through(prime, rows, table):
    """The rows, each as the sum of the table's rows by its letters, without checks."""
    columns = columns_of(table)
    return tuple([tuple([told_at(prime, row, column) for column in columns]) for row in rows])


def cleared(prime, row, lead, factor):
    """The row less the lead times the factor."""
    if factor == 0:
        return row
    return [(letter - factor * by) % prime for letter, by in zip(row, lead)]


def first_lead(work, top, column):
    """The first row from the top on that has another letter than 0 there, or None."""
    for at in range(top, len(work)):
        if work[at][column] != 0:
            return at
    return None


def reduced(prime, rows):
    """The reduced basis of the span and the tuple of its leads, without checks."""
    work = [list(row) for row in rows]
    leads = []
    for column in range(width_of(rows)):
        top = len(leads)
        found = first_lead(work, top, column)
        if found is None:
            continue
        factor = inverse_of(prime, work[found][column])
        lead = [letter * factor % prime for letter in work[found]]
        work[found] = work[top]
        work = [cleared(prime, row, lead, row[column]) for row in work]
        work[top] = lead
        leads.append(column)
    return tuple([tuple(row) for row in work[:len(leads)]]), tuple(leads)


def narrowed(prime, row, lead):
    """The row less the lead, so often that it begins with 0; both then without their first letter."""
    if row[0] == 0:
        return row[1:]
    factor = row[0]
    return [(letter - factor * by) % prime for letter, by in zip(row[1:], lead[1:])]


def rank_at(prime, rows):
    """The rank of the rows, without checks."""
    # A basis is not wanted here, so leads are dropped, and so is each column when it is done.
    left = [list(row) for row in rows]
    found = 0
    for _ in range(width_of(rows)):
        top = first_lead(left, 0, 0)
        if top is None:
            left = [row[1:] for row in left]
            continue
        factor = inverse_of(prime, left[top][0])
        lead = [letter * factor % prime for letter in left[top]]
        left = [narrowed(prime, row, lead) for at, row in enumerate(left) if at != top]
        found += 1
    return found


def kernel_row(prime, width, basis_rows, leads, free):
    """The row of the kernel with 1 at a column without a lead and 0 at the others."""
    row = [0] * width
    row[free] = 1
    for lead, letters in zip(leads, basis_rows):
        row[lead] = -letters[free] % prime
    return tuple(row)


def kernel_of(prime, width, rows):
    """The reduced basis of the kernel, for rows of any width, without checks."""
    # Backwards, so that the columns without a lead come ahead of the leads and
    # what is found is reduced as it stands.
    made, leads = reduced(prime, [row[::-1] for row in rows])
    free = [column for column in range(width) if column not in leads]
    found = [kernel_row(prime, width, made, leads, column) for column in free]
    return tuple([row[::-1] for row in found[::-1]])


def relations_at(prime, rows):
    """The reduced basis of the relations of the rows, without checks."""
    return kernel_of(prime, len(rows), columns_of(rows))


def parts_for(prime, rows, goal):
    """Letters by which the rows make the goal, or None, without checks."""
    made, leads = reduced(prime, columns_of(rows + (goal,)))
    if len(rows) in leads:
        return None
    parts = [0] * len(rows)
    for lead, letters in zip(leads, made):
        parts[lead] = letters[-1]
    return tuple(parts)


def dot(prime, one, other):
    """What the one row tells at the other one."""
    check_pair(prime, one, other)
    return told_at(prime, one, other)


def plus(prime, one, other):
    """The sum of two rows."""
    check_pair(prime, one, other)
    return tuple([(letter + more) % prime for letter, more in zip(one, other)])


def multiple(prime, row, letter):
    """The row times the letter."""
    check_prime(prime)
    check_row(prime, row)
    check_letter(prime, letter)
    return tuple([letter * own % prime for own in row])


def rank(prime, rows):
    """The greatest number of the rows that are apart."""
    check_prime(prime)
    check_rows(prime, rows)
    return rank_at(prime, rows)


def basis(prime, rows):
    """The reduced basis of the span."""
    check_prime(prime)
    check_rows(prime, rows)
    return reduced(prime, rows)[0]


def kernel(prime, width, rows):
    """The reduced basis of the rows at which all these tell 0."""
    check_prime(prime)
    check_between(width, 1, MOST_WIDTH)
    check_rows(prime, rows)
    if rows and width_of(rows) != width:
        raise InvalidOperation("the rows are of another width")
    return kernel_of(prime, width, rows)


def relations(prime, rows):
    """The reduced basis of the letters by which the rows make zeros."""
    check_prime(prime)
    check_rows(prime, rows)
    return relations_at(prime, rows)


def parts_or_look(prime, rows, goal):
    """The parts of a goal that is made of the rows, or a look that shows it is not."""
    check_goal(prime, rows, goal)
    parts = parts_for(prime, rows, goal)
    if parts is not None:
        return ("parts", parts)
    looks = [look for look in kernel_of(prime, len(goal), rows) if told_at(prime, goal, look) != 0]
    return ("look", looks[0])


def are_parts(prime, rows, goal, value):
    """Whether the value is letters, one for each row, by which they make the goal."""
    if not are_letters(prime, value, len(rows), len(rows)):
        return False
    # The goal is joined as one row more, so that there are columns without rows, too.
    return all([told_at(prime, value, column) == column[-1] for column in columns_of(rows + (goal,))])


def is_look(prime, rows, goal, value):
    """Whether the value is a row at which all rows tell 0, and the goal does not."""
    if not is_row_of(prime, len(goal), value):
        return False
    if told_at(prime, goal, value) == 0:
        return False
    return all([told_at(prime, row, value) == 0 for row in rows])


def is_parts_or_look(prime, rows, goal, value):
    """Whether the value is what parts_or_look can return."""
    check_goal(prime, rows, goal)
    if not isinstance(value, tuple) or len(value) != 2:
        return False
    if value[0] == "parts":
        return are_parts(prime, rows, goal, value[1])
    return value[0] == "look" and is_look(prime, rows, goal, value[1])


def product(prime, one, other):
    """The rows put through the other rows."""
    check_prime(prime)
    check_rows(prime, one)
    check_rows(prime, other)
    if one and width_of(one) != len(other):
        raise InvalidOperation("the one is not as wide as the other has rows")
    return put_through(prime, one, other)


def unit_rows(width):
    """The rows with 1 at equal places, and 0 else."""
    return tuple([tuple([int(at == column) for column in range(width)]) for at in range(width)])


def inverse_table(prime, table):
    """The table that makes with this one, in either sequence, the one with 1 at equal places."""
    check_prime(prime)
    if not is_rows(prime, table) or not table or width_of(table) != len(table):
        raise InvalidRows("a table is wanted")
    width = len(table)
    both = [row + unit for row, unit in zip(table, unit_rows(width))]
    made, leads = reduced(prime, both)
    if leads != tuple(range(width)):
        raise Refused(("flat",))
    return tuple([row[width:] for row in made])
