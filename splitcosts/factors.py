"""Factors: how much energy a whole method leaves of all errors at the most."""

from splitcosts.checks import check_many, check_share, check_table_and_method, check_whole
from splitcosts.forms import is_from_nought, rows_below
from splitcosts.fracs import ONE, minus, over
from splitcosts.nearness import near_root
from splitcosts.rows import applied, multiplied, table_less, table_times, unit_rows
from splitcosts.spans import are_noughts, inverse
from splitcosts.sweeps import errors_by, mean_of, rows_of


def check_method_and_share(table, method, most):
    check_table_and_method(table, method)
    check_share(most)
    check_whole(rows_of(method))


def spare_fall(table, method, most):
    """Return B - (1 - MOST) A^-1: at A e by how much more the energy of e falls than it has to for the share MOST."""
    return table_less(mean_of(table, method), minus(ONE, most), inverse(table))


def spare_cost(table, method, most):
    """Return A / (1 - MOST) - B^-1: at v by how much less its least split costs than it may for the share MOST."""
    return table_less(table_times(over(ONE, minus(ONE, most)), table), ONE, inverse(mean_of(table, method)))


def has_factor(table, method, most):
    """Tell whether the factor is at most MOST."""
    check_method_and_share(table, method, most)
    return is_from_nought(spare_fall(table, method, most))


def beyond(table, method, most):
    """Return an error with more than MOST times its energy behind the method; None if there is none."""
    check_method_and_share(table, method, most)
    below = rows_below(spare_fall(table, method, most))
    if len(below) == 0:
        return None
    return applied(inverse(table), below[0])


def factor_near(table, method, many):
    """Return the factor, near for MANY."""
    check_table_and_method(table, method)
    check_many(many)
    check_whole(rows_of(method))
    there_and_back = table_less(unit_rows(len(table)), ONE, multiplied(mean_of(table, method), table))
    return near_root(there_and_back, len(table) - 1, many)


def ends_at_once(table, method):
    """Tell whether the factor is 0."""
    check_table_and_method(table, method)
    check_whole(rows_of(method))
    return are_noughts(errors_by(table, method))
