"""Tables and forms: worths, squares and their signs, and the energy."""

from splitcosts.checks import check_form, check_row, check_table
from splitcosts.forms import low_rows, signs_of, squares_of, worth_at
from splitcosts.kinds import is_any_table
from splitcosts.rows import applied, dot


def is_table(value):
    """Tell whether VALUE, whatever it is, is a table of one to five rows."""
    return is_any_table(value)


def worth(form, row):
    """Return the worth of FORM at ROW."""
    check_form(form)
    check_row(row, len(form))
    return worth_at(form, row)


def signs(form):
    """Return how many fractions of squares of FORM are above 0, 0 and below 0."""
    check_form(form)
    return signs_of(form)


def squares(form):
    """Return squares of FORM: as many pairs of a fraction and a row as it has rows."""
    check_form(form)
    return tuple(squares_of(form))


def low_row(form):
    """Return a row other than noughts at which the worth of FORM is 0 or below; None if there is none."""
    check_form(form)
    found = low_rows(form)
    return found[0] if found else None


def energy_product(table, row, other):
    """Return ROW . (A OTHER) for the table A."""
    check_table(table)
    check_row(row, len(table))
    check_row(other, len(table))
    return dot(row, applied(table, other))
