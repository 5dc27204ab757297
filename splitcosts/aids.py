"""Aids: rows and a solver, by which errors lose energy."""

from splitcosts.checks import check_lots, check_row, check_solver, check_table, check_table_and_aid
from splitcosts.checks import check_table_and_rows
from splitcosts.errors import NotSafe
from splitcosts.forms import low_rows, worth_at
from splitcosts.fracs import ONE
from splitcosts.kinds import is_aid_for, smooths
from splitcosts.rows import applied, mixed, row_less, unit_rows
from splitcosts.spans import inverse
from splitcosts.sweeps import exact_aid_of, gap_at, lot_aid, smoothing_aid


def answer_to(table, aid, row):
    """Return M^-1 (W A e) for the error e: the numbers by which the aid takes its rows off it."""
    rows, solver = aid
    return applied(inverse(solver), applied(rows, applied(table, row)))


def is_aid(table, value):
    """Tell whether VALUE, whatever it is, is an aid for TABLE."""
    check_table(table)
    return is_aid_for(table, value)


def gap(table, rows, solver):
    """Return M + M' - W A W', whatever its signs are."""
    check_table_and_rows(table, rows)
    check_solver(solver, len(rows))
    return gap_at(table, (rows, solver))


def unsafe_row(table, rows, solver):
    """Return a row other than noughts at which the gap has the worth 0 or below; None if there is none."""
    found = low_rows(gap(table, rows, solver))
    return found[0] if found else None


def exact_aid(table, rows):
    """Return the exact aid with these ROWS."""
    check_table_and_rows(table, rows)
    return exact_aid_of(table, rows)


def smoother_aid(table, solver):
    """Return the aid that has the unit rows and this SOLVER."""
    check_table(table)
    check_solver(solver, len(table))
    if not smooths(table, solver):
        raise NotSafe()
    return smoothing_aid(solver)


def step(table, aid, row):
    """Return what the aid makes of the error ROW."""
    check_table_and_aid(table, aid)
    check_row(row, len(table))
    return row_less(row, ONE, mixed(answer_to(table, aid, row), aid[0]))


def fall(table, aid, row):
    """Return by how much the energy of the error ROW becomes less."""
    check_table_and_aid(table, aid)
    check_row(row, len(table))
    return worth_at(gap_at(table, aid), answer_to(table, aid, row))


def point_aids(table):
    """Return the exact aids of the unit rows, one by one."""
    check_table(table)
    return tuple([exact_aid_of(table, (row,)) for row in unit_rows(len(table))])


def lot_aids(table, lots):
    """Return the exact aids of the unit rows of each lot of indexes."""
    check_table(table)
    check_lots(lots, len(table))
    return tuple([lot_aid(table, lot) for lot in lots])
