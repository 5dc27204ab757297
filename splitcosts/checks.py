"""What arguments have to be, and the errors for those that are not."""

from math import gcd

from splitcosts.errors import InvalidAmount, InvalidNumber, InvalidParts, InvalidRow, InvalidRows, InvalidShare
from splitcosts.errors import InvalidSmoother, InvalidSpans, InvalidTable, InvalidTeam
from splitcosts.forms import is_positive
from splitcosts.fracs import ONE
from splitcosts.rows import table_less, table_plus, turned_over
from splitcosts.spans import with_row

MOST_ROWS = 5
MOST_AIDS = 8
MOST_MANY = 1000000


def is_tuple(value):
    return type(value) == tuple


def is_whole_number(value):
    return type(value) == int


def is_fraction(value):
    if not is_tuple(value) or len(value) != 2:
        return False
    top, low = value
    return is_whole_number(top) and is_whole_number(low) and low > 0 and gcd(top, low) == 1


def is_row(value, many):
    return is_tuple(value) and len(value) == many and all([is_fraction(number) for number in value])


def is_table_of(value, many):
    return is_tuple(value) and len(value) == many and all([is_row(row, many) for row in value])


def is_positive_table(value):
    """Tell whether VALUE is a positive form of one to five rows."""
    if not is_tuple(value) or not 1 <= len(value) <= MOST_ROWS or not is_table_of(value, len(value)):
        return False
    return value == turned_over(value) and is_positive(value)


def free_count(rows, many):
    """Return how many of ROWS stand ahead of the first that is no row of MANY fractions or is not free."""
    steps = ()
    for at, row in enumerate(rows):
        if not is_row(row, many):
            return at
        longer = with_row(steps, row)
        if len(longer) == len(steps):
            return at
        steps = longer
    return len(rows)


def is_span(value, many):
    """Tell whether VALUE is one or more free rows of MANY fractions."""
    return is_tuple(value) and len(value) > 0 and free_count(value, many) == len(value)


def is_team_aid(value, many):
    if not is_tuple(value) or len(value) != 2:
        return False
    rows, solver = value
    return is_span(rows, many) and is_positive_table(solver) and len(solver) == len(rows)


def gap_of_smoother(table, smoother):
    return table_less(table_plus(smoother, turned_over(smoother)), ONE, table)


def smooths(table, value):
    """Tell whether VALUE is a smoother for the TABLE, told by its SOLVER."""
    return is_table_of(value, len(table)) and is_positive(gap_of_smoother(table, value))


def check_table(value):
    if not is_positive_table(value):
        raise InvalidTable(value)


def check_row(value, many):
    if not is_tuple(value) or len(value) != many:
        raise InvalidRow(None)
    for at, number in enumerate(value):
        if not is_fraction(number):
            raise InvalidRow(at)


def check_team(value, many):
    """Raise InvalidTeam if VALUE is no team for tables of MANY rows."""
    if not is_tuple(value) or value == ():
        raise InvalidTeam(None)
    for at, aid in enumerate(value):
        if at == MOST_AIDS or not is_team_aid(aid, many):
            raise InvalidTeam(at)


def check_table_and_team(table, team):
    check_table(table)
    check_team(team, len(table))


def check_spans(value, many):
    if not is_tuple(value) or value == ():
        raise InvalidSpans(None)
    for at, rows in enumerate(value):
        if at == MOST_AIDS or not is_span(rows, many):
            raise InvalidSpans(at)


def check_parts(value, team):
    if not is_tuple(value) or len(value) != len(team):
        raise InvalidParts(None)
    for at, (part, aid) in enumerate(zip(value, team)):
        if not is_row(part, len(aid[0])):
            raise InvalidParts(at)


def check_amount(value):
    if not is_fraction(value) or value[0] < 0:
        raise InvalidAmount(value)


def check_damping(value):
    if not is_fraction(value) or value[0] <= 0:
        raise InvalidAmount(value)


def check_share(value):
    if not is_fraction(value) or not 0 <= value[0] < value[1]:
        raise InvalidShare(value)


def check_number_from(value, least, most):
    """Raise InvalidNumber if VALUE is no whole number from LEAST to MOST."""
    if not is_whole_number(value) or not least <= value <= most:
        raise InvalidNumber(value)


def check_many(value):
    check_number_from(value, 1, MOST_MANY)


def check_smoother(value, table):
    if not smooths(table, value):
        raise InvalidSmoother(value)


def check_table_and_smoother(table, smoother):
    check_table(table)
    check_smoother(smoother, table)


def check_coarse(value, many):
    """Raise InvalidRows if VALUE is no tuple of none or more free rows of MANY fractions."""
    if not is_tuple(value):
        raise InvalidRows(None)
    at = free_count(value, many)
    if at < len(value):
        raise InvalidRows(at)
