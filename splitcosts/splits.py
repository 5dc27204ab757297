"""Splits of rows among the spans of a method's aids, their least cost, and prices that no split goes below."""

from splitcosts.checks import check_row, check_split, check_table_and_method, check_whole
from splitcosts.rows import applied, dot
from splitcosts.spans import inverse
from splitcosts.sweeps import added_up, bound_by, cost_of, mean_of, rows_of, split_by


def split_sum(table, method, split):
    """Return the row that SPLIT splits."""
    check_table_and_method(table, method)
    check_split(split, method)
    return added_up(method, split)


def split_cost(table, method, split):
    """Return what SPLIT costs."""
    check_table_and_method(table, method)
    check_split(split, method)
    return cost_of(table, method, split)


def least_split(table, method, row):
    """Return the one split of ROW that costs least."""
    return split_by(table, method, best_price(table, method, row))


def least_cost(table, method, row):
    """Return the least cost of all splits of ROW."""
    return dot(best_price(table, method, row), row)


def best_price(table, method, row):
    """Return the price B^-1 v for the row v, by which the bound is the least cost."""
    check_table_and_method(table, method)
    check_row(row, len(table))
    check_whole(rows_of(method))
    return applied(inverse(mean_of(table, method)), row)


def price_bound(table, method, price, row):
    """Return 2 y . v less the worth of B at y, for the price y: no split of the row v costs less."""
    check_table_and_method(table, method)
    check_row(price, len(table))
    check_row(row, len(table))
    return bound_by(table, method, price, row)
