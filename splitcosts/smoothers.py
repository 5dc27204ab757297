"""Smoothers beside one another: which of them is never worse, whatever the coarse rows are."""

from splitcosts.checks import check_smoother, check_table, check_table_and_smoother, check_weight
from splitcosts.coarse import smoothed_inverse
from splitcosts.errors import NotSafe
from splitcosts.forms import is_from_nought, rows_below
from splitcosts.fracs import NIL, ONE, over
from splitcosts.kinds import smooths
from splitcosts.rows import row_times, table_less, unit_row
from splitcosts.spans import noughts_basis


def advantage(table, smoother, other):
    """Return S^-1 of SMOOTHER less that of OTHER: at y by how much more energy it takes off behind a coarse step."""
    return table_less(smoothed_inverse(table, smoother), ONE, smoothed_inverse(table, other))


def is_smoother(table, value):
    """Tell whether VALUE, whatever it is, is a smoother for TABLE."""
    check_table(table)
    return smooths(table, value)


def lower_smoother(table):
    """Return the numbers of TABLE on and below the slant, 0 above it."""
    check_table(table)
    return tuple([row[:at + 1] + (NIL,) * (len(row) - at - 1) for at, row in enumerate(table)])


def slant_smoother(table, weight):
    """Return the numbers of TABLE's slant over WEIGHT, 0 beside."""
    check_table(table)
    check_weight(weight)
    found = tuple([row_times(over(row[at], weight), unit_row(len(table), at)) for at, row in enumerate(table)])
    if not smooths(table, found):
        raise NotSafe()
    return found


def is_never_worse(table, smoother, other):
    """Tell whether for all coarse rows the factor by SMOOTHER is at most that by OTHER."""
    check_table_and_smoother(table, smoother)
    check_smoother(other, table)
    return is_from_nought(advantage(table, smoother, other))


def parting_rows(table, smoother, other):
    """Return all but one coarse rows that have a greater factor by SMOOTHER than by OTHER; None if there are none."""
    check_table_and_smoother(table, smoother)
    check_smoother(other, table)
    below = rows_below(advantage(table, smoother, other))
    if len(below) == 0:
        return None
    return noughts_basis(below[:1], len(table))
