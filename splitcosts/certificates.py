"""Certificates: of two claims that exclude one another the one that is so, and its paper."""

from splitcosts.aids import gap, unsafe_row
from splitcosts.coarse import barring_rows, best_rows, coarse_beyond
from splitcosts.factors import beyond, spare_cost
from splitcosts.forms import rows_below, squares_of
from splitcosts.inner import ends_with, harmonics
from splitcosts.methods import is_whole, staying_error
from splitcosts.rows import applied, dot, table_times
from splitcosts.smoothers import parting_rows
from splitcosts.spans import are_in_span, inverse
from splitcosts.splits import best_price
from splitcosts.sweeps import split_by, unit_splits
from splitcosts.tables import low_row, squares
from splitcosts.together import has_ratios_from, has_ratios_up_to, ratio_form, unfalling
from splitcosts.twospans import product_pair


def certify_positive(form):
    """Certify that FORM is positive, or that it is not."""
    found = low_row(form)
    if found is not None:
        return (("not positive", form), found)
    return (("positive", form), squares(form))


def certify_aid(table, rows, solver):
    """Certify that ROWS and SOLVER are an aid, or that the gap is not positive."""
    found = unsafe_row(table, rows, solver)
    if found is not None:
        return (("unsafe", table, rows, solver), found)
    return (("aid", table, rows, solver), squares(gap(table, rows, solver)))


def certify_whole(table, method):
    """Certify that METHOD is whole, or that it is not."""
    if not is_whole(table, method):
        return (("stays", table, method), staying_error(table, method))
    return (("whole", table, method), unit_splits(method))


def certify_cost(table, method, row):
    """Certify the least cost of ROW."""
    price = best_price(table, method, row)
    return (("costs", table, method, row, dot(price, row)), (split_by(table, method, price), price))


def certify_factor(table, method, most):
    """Certify that the factor is at most MOST, or that it is above."""
    found = beyond(table, method, most)
    if found is not None:
        return (("factor above", table, method, most), found)
    return (("factor up to", table, method, most), tuple(squares_of(spare_cost(table, method, most))))


def error_below(table, form):
    """Return an error e such that the worth of FORM at A e is below 0; there is one."""
    return applied(inverse(table), rows_below(form)[0])


def certify_ratios_from(table, team, number):
    """Certify that all ratios are at least NUMBER, or that one is below."""
    if has_ratios_from(table, team, number):
        return (("ratios from", table, team, number), ())
    return (("ratio below", table, team, number), error_below(table, ratio_form(table, team, number)))


def certify_ratios_up_to(table, team, number):
    """Certify that all ratios are at most NUMBER, or that one is above."""
    if has_ratios_up_to(table, team, number):
        return (("ratios up to", table, team, number), ())
    form = table_times((-1, 1), ratio_form(table, team, number))
    return (("ratio above", table, team, number), error_below(table, form))


def certify_damping(table, team, damping):
    """Certify that with DAMPING all errors die, or that some do not."""
    found = unfalling(table, team, damping)
    if found is not None:
        return (("does not die", table, team, damping), found)
    return (("dies", table, team, damping), ())


def certify_product(table, first, second, most):
    """Certify that the product of both spans is at most MOST, or that it is above."""
    found = product_pair(table, first, second, most)
    if found is not None:
        return (("product above", table, first, second, most), found)
    return (("product up to", table, first, second, most), ())


def certify_end(table, inner, coarse):
    """Certify that the exact aids of the INNER unit rows and of COARSE end at once, or that they do not."""
    if ends_with(table, inner, coarse):
        return (("ends", table, inner, coarse), ())
    # The inner aid leaves a harmonic row as it is, the other one takes it all only if it is in the span.
    left = [row for row in harmonics(table, inner) if not are_in_span((row,), coarse)]
    return (("goes on", table, inner, coarse), left[0])


def certify_coarse(table, smoother, coarse, most):
    """Certify that two grids have a factor of at most MOST, or that they have not."""
    found = coarse_beyond(table, smoother, coarse, most)
    if found is not None:
        return (("coarse beyond", table, smoother, coarse, most), found)
    return (("coarse factor", table, smoother, coarse, most), ())


def certify_best(table, smoother, kept, count, most):
    """Certify that some COUNT coarse rows with the KEPT ones have a factor of at most MOST, or that none have."""
    found = best_rows(table, smoother, kept, count, most)
    if found is not None:
        return (("some coarse", table, smoother, kept, count, most), found)
    return (("no coarse", table, smoother, kept, count, most), barring_rows(table, smoother, kept, count, most))


def certify_smoothers(table, smoother, other):
    """Certify that SMOOTHER is never worse than OTHER, or that it is for some coarse rows."""
    found = parting_rows(table, smoother, other)
    if found is not None:
        return (("worse", table, smoother, other), found)
    return (("never worse", table, smoother, other), ())
