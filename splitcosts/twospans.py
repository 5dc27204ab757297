"""Two spans: the product of all that has no energy product with the one and with the other, and what is in both."""

from splitcosts.checks import check_many, check_share, check_table_and_spans, check_whole
from splitcosts.forms import is_from_nought, rows_below
from splitcosts.fracs import ONE
from splitcosts.nearness import near_root
from splitcosts.rows import applied, form_on, mixed, multiplied, table_less, table_times
from splitcosts.spans import inverse, noughts_basis
from splitcosts.sweeps import errors_by, exact_aid_of


def check_spans_and_share(table, first, second, most):
    check_table_and_spans(table, first, second)
    check_share(most)
    check_whole(first + second)


def left_by(table, rows):
    """Return the error table of the exact aid of ROWS: of each error it leaves what has no energy product with them."""
    return errors_by(table, (exact_aid_of(table, rows),))


def apart_from(table, rows):
    """Return free rows whose span are all that have no energy product with ROWS."""
    return noughts_basis(multiplied(rows, table), len(table))


def product_gap(table, first, second, most):
    """Return MOST times the energy less the energy that the exact aid of FIRST leaves, at rows apart from SECOND.

    Of all rows x apart from FIRST the one that is left of y has the greatest quotient with y: the energy left over
    that of y.
    """
    left = multiplied(table, left_by(table, first))
    return form_on(table_less(table_times(most, table), ONE, left), apart_from(table, second))


def product_up_to(table, first, second, most):
    """Tell whether the product of both spans is at most MOST."""
    check_spans_and_share(table, first, second, most)
    return is_from_nought(product_gap(table, first, second, most))


def product_near(table, first, second, many):
    """Return the product of both spans, near for MANY."""
    check_table_and_spans(table, first, second)
    check_many(many)
    check_whole(first + second)
    apart = apart_from(table, second)
    if len(apart) == 0:
        return (0, True)
    left = form_on(multiplied(table, left_by(table, first)), apart)
    return near_root(multiplied(left, inverse(form_on(table, apart))), len(apart) - 1, many)


def product_pair(table, first, second, most):
    """Return rows x and y, apart from FIRST and from SECOND, with a quotient above MOST; None if there are none."""
    check_spans_and_share(table, first, second, most)
    below = rows_below(product_gap(table, first, second, most))
    if len(below) == 0:
        return None
    row = mixed(below[0], apart_from(table, second))
    return (applied(left_by(table, first), row), row)


def common_rows(table, first, second):
    """Return free rows whose span is what is in the spans of FIRST and of SECOND."""
    check_table_and_spans(table, first, second)
    many = len(table)
    return noughts_basis(noughts_basis(first, many) + noughts_basis(second, many), many)
