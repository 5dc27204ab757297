"""What values are: numbers, rows and tables, aids, methods and teams, whatever else may be passed in their place."""

from math import gcd

from splitcosts.forms import is_positive
from splitcosts.rows import form_on, gap_of, turned_over
from splitcosts.spans import with_row

MOST_ROWS = 5
MOST_AIDS = 8
MOST_PAIRS = 2


def is_tuple(value):
    return type(value) == tuple


def is_text(value):
    return type(value) == str


def is_whole_number(value):
    return type(value) == int


def is_number_from(value, least, most):
    """Tell whether VALUE is a whole number from LEAST to MOST."""
    return is_whole_number(value) and least <= value <= most


def is_pair(value):
    return is_tuple(value) and len(value) == 2


def is_fraction(value):
    if not is_pair(value):
        return False
    top, low = value
    return is_whole_number(top) and is_whole_number(low) and low > 0 and gcd(top, low) == 1


def is_amount(value):
    """Tell whether VALUE is a fraction from 0 on."""
    return is_fraction(value) and value[0] >= 0


def is_above_nought(value):
    return is_fraction(value) and value[0] > 0


def is_share(value):
    """Tell whether VALUE is a fraction from 0 on, below 1."""
    return is_fraction(value) and 0 <= value[0] < value[1]


def is_row(value, many):
    return is_tuple(value) and len(value) == many and all([is_fraction(number) for number in value])


def is_table_of(value, many):
    return is_tuple(value) and len(value) == many and all([is_row(row, many) for row in value])


def is_any_table(value):
    """Tell whether VALUE is a table of one to five rows."""
    return is_tuple(value) and 1 <= len(value) <= MOST_ROWS and is_table_of(value, len(value))


def is_form(value):
    """Tell whether VALUE is a form of one to five rows."""
    return is_any_table(value) and value == turned_over(value)


def is_positive_table(value):
    """Tell whether VALUE is a positive form of one to five rows."""
    return is_form(value) and is_positive(value)


def free_count(rows, many):
    """Return how many of ROWS stand ahead of the first that is no row of MANY fractions or is not free."""
    steps = ()
    for at, row in enumerate(rows):
        if not is_row(row, many):
            return at
        longer = with_row(steps, row)
        if len(longer) == len(steps):
            return at
        steps = longer
    return len(rows)


def are_coarse(value, many):
    """Tell whether VALUE is a tuple of none or more free rows of MANY fractions."""
    return is_tuple(value) and free_count(value, many) == len(value)


def is_span(value, many):
    """Tell whether VALUE is one or more free rows of MANY fractions."""
    return are_coarse(value, many) and len(value) > 0


def smooths(table, value):
    """Tell whether VALUE is a smoother for the TABLE, told by its SOLVER."""
    return is_table_of(value, len(table)) and is_positive(gap_of(table, value))


def is_aid_for(table, value):
    """Tell whether VALUE is an aid for the TABLE: free rows, and a smoother for the table on them."""
    if not is_pair(value):
        return False
    rows, solver = value
    return is_span(rows, len(table)) and smooths(form_on(table, rows), solver)


def is_team_aid(value, many):
    if not is_pair(value):
        return False
    rows, solver = value
    return is_span(rows, many) and is_positive_table(solver) and len(solver) == len(rows)


def right_count(values, is_right):
    """Return how many of VALUES stand ahead of the first that is not right, or is the ninth."""
    for at, value in enumerate(values):
        if at == MOST_AIDS or not is_right(value):
            return at
    return len(values)


def are_right(value, is_right):
    """Tell whether VALUE is a tuple of one to eight elements, each of them right."""
    return is_tuple(value) and len(value) > 0 and right_count(value, is_right) == len(value)


def is_method_for(table, value):
    return are_right(value, lambda aid: is_aid_for(table, aid))


def is_team_of(value, many):
    """Tell whether VALUE is a team for tables of MANY rows."""
    return are_right(value, lambda aid: is_team_aid(aid, many))


def is_lot(value, many):
    """Tell whether VALUE is an ascending tuple of one or more indexes below MANY."""
    if not is_tuple(value) or len(value) == 0:
        return False
    if not all([is_number_from(index, 0, many - 1) for index in value]):
        return False
    return all([value[at - 1] < value[at] for at in range(1, len(value))])


def is_inner(value, many):
    """Tell whether VALUE is a lot of inner indexes: one of MANY at least is an outer one."""
    return is_lot(value, many) and len(value) < many


def fitting_count(parts, aids):
    """Return how many of PARTS stand ahead of the first that is no row of as many fractions as its aid has rows."""
    for at, (part, aid) in enumerate(zip(parts, aids)):
        if not is_row(part, len(aid[0])):
            return at
    return len(parts)


def are_fitting(value, aids):
    """Tell whether VALUE is a tuple of a row for each of the AIDS, a number for each of its rows."""
    return is_tuple(value) and len(value) == len(aids) and fitting_count(value, aids) == len(value)


def is_ladder_pair(table, value):
    """Tell whether VALUE is a pair of a smoother for the TABLE and one or more free rows."""
    if not is_pair(value):
        return False
    smoother, rows = value
    return smooths(table, smoother) and is_span(rows, len(table))


def climbing_count(table, pairs):
    """Return how many of PAIRS stand ahead of the first that is none for the table which those ahead make of TABLE."""
    for at, pair in enumerate(pairs):
        if not is_ladder_pair(table, pair):
            return at
        table = form_on(table, pair[1])
    return len(pairs)


def is_ladder_long(value):
    return is_tuple(value) and 1 <= len(value) <= MOST_PAIRS


def is_ladder_for(table, value):
    return is_ladder_long(value) and climbing_count(table, value) == len(value)
