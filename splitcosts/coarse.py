"""Two grids: a few coarse rows that are solved exactly and a smoother, and the best coarse rows."""

from splitcosts.checks import check_coarse, check_many, check_number_from, check_share, check_table_and_smoother
from splitcosts.forms import is_from_nought, rows_below, signs_of, squares_of
from splitcosts.fracs import ONE, minus
from splitcosts.nearness import near_root
from splitcosts.rows import form_on, gap_of, mixed, multiplied, spread, table_less, turned_over
from splitcosts.spans import inverse, loose_places, noughts_basis
from splitcosts.sweeps import exact_aid_of, smoothing_aid


def check_kept_and_count(table, smoother, kept, count):
    check_table_and_smoother(table, smoother)
    check_coarse(kept, len(table))
    check_number_from(count, len(kept), len(table))


def smoothed_inverse(table, smoother):
    """Return the inverse of S = M D^-1 M', M being the smoother and D its gap."""
    return form_on(gap_of(table, smoother), turned_over(inverse(smoother)))


def measure_of(table, smoother, most):
    return table_less(smoothed_inverse(table, smoother), minus(ONE, most), inverse(table))


def measure_beside(table, smoother, rows, most):
    """Return the measure at rows y that are 0 with each of ROWS.

    It is a form of the numbers with which the noughts basis of ROWS adds up to y.
    """
    return form_on(measure_of(table, smoother, most), noughts_basis(rows, len(table)))


def factor_near(table, smoother, kept, spare, many):
    """Return near for MANY the least factor of the KEPT rows with as many as SPARE more beside them."""
    basis = noughts_basis(kept, len(table))
    if spare == len(basis):
        return (0, True)
    energies = inverse(table)
    left = form_on(table_less(energies, ONE, smoothed_inverse(table, smoother)), basis)
    return near_root(multiplied(left, inverse(form_on(energies, basis))), len(basis) - 1 - spare, many)


def two_grids(table, smoother, coarse):
    """Return the method of the exact aid of the COARSE rows, if there are any, and the smoother behind it."""
    check_table_and_smoother(table, smoother)
    check_coarse(coarse, len(table))
    if len(coarse) == 0:
        return (smoothing_aid(smoother),)
    return (exact_aid_of(table, coarse), smoothing_aid(smoother))


def smoothed_table(table, smoother):
    """Return S = M D^-1 M', M being the smoother and D its gap."""
    check_table_and_smoother(table, smoother)
    return form_on(inverse(gap_of(table, smoother)), smoother)


def measure(table, smoother, most):
    """Return the measure of the smoother for the share MOST."""
    check_table_and_smoother(table, smoother)
    check_share(most)
    return measure_of(table, smoother, most)


def has_coarse_factor(table, smoother, coarse, most):
    """Tell whether two grids have a factor of at most MOST."""
    check_table_and_smoother(table, smoother)
    check_coarse(coarse, len(table))
    check_share(most)
    return is_from_nought(measure_beside(table, smoother, coarse, most))


def coarse_beyond(table, smoother, coarse, most):
    """Return a row at which the measure is below 0, 0 with each COARSE row; None if there is none."""
    check_table_and_smoother(table, smoother)
    check_coarse(coarse, len(table))
    check_share(most)
    below = rows_below(measure_beside(table, smoother, coarse, most))
    if len(below) == 0:
        return None
    return mixed(below[0], noughts_basis(coarse, len(table)))


def coarse_factor_near(table, smoother, coarse, many):
    """Return the factor of two grids, near for MANY."""
    check_table_and_smoother(table, smoother)
    check_coarse(coarse, len(table))
    check_many(many)
    return factor_near(table, smoother, coarse, 0, many)


def least_count(table, smoother, most):
    """Return how many coarse rows have to be, for two grids with a factor of at most MOST."""
    check_table_and_smoother(table, smoother)
    check_share(most)
    return signs_of(measure_of(table, smoother, most))[2]


def best_rows(table, smoother, kept, count, most):
    """Return COUNT coarse rows, the KEPT ones ahead, with a factor of at most MOST; None if there are none."""
    check_kept_and_count(table, smoother, kept, count)
    check_share(most)
    squares = squares_of(measure_beside(table, smoother, kept, most))
    below = [row for part, row in squares if part[0] < 0]
    others = [row for part, row in squares if part[0] >= 0]
    if len(below) > count - len(kept):
        return None
    # A row y that is 0 with the kept ones is added up with its own numbers at their loose places.
    places = loose_places(kept, len(table))
    chosen = (below + others)[:count - len(kept)]
    return kept + tuple([spread(row, places, len(table)) for row in chosen])


def barring_rows(table, smoother, kept, count, most):
    """Return rows that bar all COUNT coarse rows with the KEPT ones from a factor up to MOST; or None."""
    check_kept_and_count(table, smoother, kept, count)
    check_share(most)
    spare = count - len(kept)
    below = rows_below(measure_beside(table, smoother, kept, most))
    if len(below) <= spare:
        return None
    basis = noughts_basis(kept, len(table))
    return tuple([mixed(row, basis) for row in below[:spare + 1]])


def best_factor_near(table, smoother, kept, count, many):
    """Return the least factor of COUNT coarse rows with the KEPT ones in their span, near for MANY."""
    check_kept_and_count(table, smoother, kept, count)
    check_many(many)
    return factor_near(table, smoother, kept, count - len(kept), many)
