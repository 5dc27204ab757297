"""What arguments have to be, and the errors for those that are not."""

from math import gcd

from splitcosts.errors import InvalidAid, InvalidAmount, InvalidForm, InvalidLots, InvalidMethod, InvalidNumber
from splitcosts.errors import InvalidParts, InvalidRow, InvalidRows, InvalidShare, InvalidSmoother, InvalidSolver
from splitcosts.errors import InvalidSpans, InvalidSplit, InvalidTable, InvalidTeam
from splitcosts.forms import is_positive
from splitcosts.rows import form_on, gap_of, turned_over
from splitcosts.spans import with_row

MOST_ROWS = 5
MOST_AIDS = 8
MOST_MANY = 1000000
MOST_ROUNDS = 40


def is_tuple(value):
    return type(value) == tuple


def is_whole_number(value):
    return type(value) == int


def is_fraction(value):
    if not is_tuple(value) or len(value) != 2:
        return False
    top, low = value
    return is_whole_number(top) and is_whole_number(low) and low > 0 and gcd(top, low) == 1


def is_row(value, many):
    return is_tuple(value) and len(value) == many and all([is_fraction(number) for number in value])


def is_table_of(value, many):
    return is_tuple(value) and len(value) == many and all([is_row(row, many) for row in value])


def is_any_table(value):
    """Tell whether VALUE is a table of one to five rows."""
    return is_tuple(value) and 1 <= len(value) <= MOST_ROWS and is_table_of(value, len(value))


def is_form(value):
    """Tell whether VALUE is a form of one to five rows."""
    return is_any_table(value) and value == turned_over(value)


def is_positive_table(value):
    """Tell whether VALUE is a positive form of one to five rows."""
    return is_form(value) and is_positive(value)


def free_count(rows, many):
    """Return how many of ROWS stand ahead of the first that is no row of MANY fractions or is not free."""
    steps = ()
    for at, row in enumerate(rows):
        if not is_row(row, many):
            return at
        longer = with_row(steps, row)
        if len(longer) == len(steps):
            return at
        steps = longer
    return len(rows)


def is_span(value, many):
    """Tell whether VALUE is one or more free rows of MANY fractions."""
    return is_tuple(value) and len(value) > 0 and free_count(value, many) == len(value)


def is_team_aid(value, many):
    if not is_tuple(value) or len(value) != 2:
        return False
    rows, solver = value
    return is_span(rows, many) and is_positive_table(solver) and len(solver) == len(rows)


def smooths(table, value):
    """Tell whether VALUE is a smoother for the TABLE, told by its SOLVER."""
    return is_table_of(value, len(table)) and is_positive(gap_of(table, value))


def is_aid_for(table, value):
    """Tell whether VALUE is an aid for the TABLE: free rows, and a smoother for the table on them."""
    if not is_tuple(value) or len(value) != 2:
        return False
    rows, solver = value
    return is_span(rows, len(table)) and smooths(form_on(table, rows), solver)


def is_lot(value, many):
    """Tell whether VALUE is an ascending tuple of one or more indexes below MANY."""
    if not is_tuple(value) or len(value) == 0:
        return False
    if not all([is_whole_number(index) and 0 <= index < many for index in value]):
        return False
    return all([value[at - 1] < value[at] for at in range(1, len(value))])


def fitting_count(parts, aids):
    """Return how many of PARTS stand ahead of the first that is no row of as many fractions as its aid has rows."""
    for at, (part, aid) in enumerate(zip(parts, aids)):
        if not is_row(part, len(aid[0])):
            return at
    return len(parts)


def check_form(value):
    if not is_form(value):
        raise InvalidForm(value)


def check_table(value):
    if not is_positive_table(value):
        raise InvalidTable(value)


def check_row(value, many):
    if not is_tuple(value) or len(value) != many:
        raise InvalidRow(None)
    for at, number in enumerate(value):
        if not is_fraction(number):
            raise InvalidRow(at)


def check_team(value, many):
    """Raise InvalidTeam if VALUE is no team for tables of MANY rows."""
    if not is_tuple(value) or value == ():
        raise InvalidTeam(None)
    for at, aid in enumerate(value):
        if at == MOST_AIDS or not is_team_aid(aid, many):
            raise InvalidTeam(at)


def check_table_and_team(table, team):
    check_table(table)
    check_team(team, len(table))


def check_spans(value, many):
    if not is_tuple(value) or value == ():
        raise InvalidSpans(None)
    for at, rows in enumerate(value):
        if at == MOST_AIDS or not is_span(rows, many):
            raise InvalidSpans(at)


def check_parts(value, team):
    if not is_tuple(value) or len(value) != len(team):
        raise InvalidParts(None)
    at = fitting_count(value, team)
    if at < len(value):
        raise InvalidParts(at)


def check_amount(value):
    if not is_fraction(value) or value[0] < 0:
        raise InvalidAmount(value)


def check_damping(value):
    if not is_fraction(value) or value[0] <= 0:
        raise InvalidAmount(value)


def check_share(value):
    if not is_fraction(value) or not 0 <= value[0] < value[1]:
        raise InvalidShare(value)


def check_number_from(value, least, most):
    """Raise InvalidNumber if VALUE is no whole number from LEAST to MOST."""
    if not is_whole_number(value) or not least <= value <= most:
        raise InvalidNumber(value)


def check_many(value):
    check_number_from(value, 1, MOST_MANY)


def check_rounds(value):
    check_number_from(value, 0, MOST_ROUNDS)


def check_smoother(value, table):
    if not smooths(table, value):
        raise InvalidSmoother(value)


def check_table_and_smoother(table, smoother):
    check_table(table)
    check_smoother(smoother, table)


def check_coarse(value, many):
    """Raise InvalidRows if VALUE is no tuple of none or more free rows of MANY fractions."""
    if not is_tuple(value):
        raise InvalidRows(None)
    at = free_count(value, many)
    if at < len(value):
        raise InvalidRows(at)


def check_rows(value, many):
    """Raise InvalidRows if VALUE is no tuple of one or more free rows of MANY fractions."""
    if not is_tuple(value) or value == ():
        raise InvalidRows(None)
    check_coarse(value, many)


def check_table_and_rows(table, rows):
    check_table(table)
    check_rows(rows, len(table))


def check_solver(value, many):
    if not is_table_of(value, many):
        raise InvalidSolver(value)


def check_table_and_aid(table, aid):
    check_table(table)
    if not is_aid_for(table, aid):
        raise InvalidAid(aid)


def check_lots(value, many):
    if not is_tuple(value) or value == ():
        raise InvalidLots(None)
    for at, lot in enumerate(value):
        if at == MOST_AIDS or not is_lot(lot, many):
            raise InvalidLots(at)


def check_table_and_method(table, method):
    check_table(table)
    if not is_tuple(method) or method == ():
        raise InvalidMethod(None)
    for at, aid in enumerate(method):
        if at == MOST_AIDS or not is_aid_for(table, aid):
            raise InvalidMethod(at)


def check_split(value, method):
    if not is_tuple(value) or len(value) != len(method):
        raise InvalidSplit(None)
    at = fitting_count(value, method)
    if at < len(value):
        raise InvalidSplit(at)
