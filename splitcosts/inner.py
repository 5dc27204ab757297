"""Inner and outer unknowns: harmonic rows, the outer table, and which exact aids end at once."""

from splitcosts.checks import check_coarse, check_row, check_table_and_inner
from splitcosts.rows import form_on, mixed, turned_over
from splitcosts.spans import are_in_span
from splitcosts.sweeps import errors_by, lot_aid


def harmonics(table, inner):
    """Return the harmonic rows: what the exact aid of the INNER unit rows leaves of the outer ones."""
    left = turned_over(errors_by(table, (lot_aid(table, inner),)))
    return tuple([left[at] for at in range(len(table)) if at not in inner])


def harmonic_rows(table, inner):
    """Return the harmonic rows of the outer indexes, in order."""
    check_table_and_inner(table, inner)
    return harmonics(table, inner)


def outer_table(table, inner):
    """Return the table of the energy products of the harmonic rows."""
    check_table_and_inner(table, inner)
    return form_on(table, harmonics(table, inner))


def extended(table, inner, numbers):
    """Return the row of the least energy of all that have these outer NUMBERS."""
    check_table_and_inner(table, inner)
    check_row(numbers, len(table) - len(inner))
    return mixed(numbers, harmonics(table, inner))


def ends_with(table, inner, coarse):
    """Tell whether the exact aids of the INNER unit rows and of the COARSE rows leave noughts of all errors."""
    check_table_and_inner(table, inner)
    check_coarse(coarse, len(table))
    return are_in_span(harmonics(table, inner), coarse)
