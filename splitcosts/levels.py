"""Levels: rounds over two or three of them, each told as a method."""

from splitcosts.checks import check_table, check_table_and_ladder
from splitcosts.kinds import is_ladder_for
from splitcosts.rows import form_on, multiplied, turned_over
from splitcosts.sweeps import exact_aid_of, smoothing_aid


def round_of(table, ladder, times):
    """Return the round that takes what stands below its first pair so many TIMES."""
    smoother, rows = ladder[0]
    lower = (exact_aid_of(table, rows),)
    if len(ladder) > 1:
        below = round_of(form_on(table, rows), ladder[1:], times)
        lower = tuple([(multiplied(own, rows), solver) for own, solver in below]) * times
    return (smoothing_aid(smoother),) + lower + (smoothing_aid(turned_over(smoother)),)


def is_ladder(table, value):
    """Tell whether VALUE, whatever it is, is a ladder for TABLE."""
    check_table(table)
    return is_ladder_for(table, value)


def level_tables(table, ladder):
    """Return the tables of all levels, one more than pairs."""
    check_table_and_ladder(table, ladder)
    found = (table,)
    for _, rows in ladder:
        found = found + (form_on(found[-1], rows),)
    return found


def exact_round(table, ladder):
    """Return the round that has the exact aid of the first pair's rows between its smoother and the turned one."""
    check_table_and_ladder(table, ladder)
    return round_of(table, ladder[:1], 1)


def v_round(table, ladder):
    """Return the round that has the lower round once between the smoother and the turned one."""
    check_table_and_ladder(table, ladder)
    return round_of(table, ladder, 1)


def w_round(table, ladder):
    """Return the round that has the lower round twice between the smoother and the turned one."""
    check_table_and_ladder(table, ladder)
    return round_of(table, ladder, 2)
