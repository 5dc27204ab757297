"""Papers: what shows that a claim is so. They may be whatever they are; the parts of the claim are right."""

from splitcosts.coarse import measure_beside, measure_of
from splitcosts.factors import spare_cost, spare_fall
from splitcosts.forms import is_from_nought, less_square, signs_of, worth_at
from splitcosts.fracs import minus, times
from splitcosts.inner import harmonics
from splitcosts.kinds import are_coarse, are_fitting, free_count, is_fraction, is_pair, is_row, is_tuple
from splitcosts.rows import applied, dot, form_on, unit_rows
from splitcosts.smoothers import advantage
from splitcosts.spans import are_in_span, are_noughts, is_noughts, noughts_basis
from splitcosts.sweeps import added_up, bound_by, cost_of, errors_by, exact_aid_of, gap_at, lot_aid, rows_of
from splitcosts.together import damped_by, does_die, ratio_form, ratio_signs
from splitcosts.twospans import product_gap


def is_nothing(paper):
    return is_tuple(paper) and len(paper) == 0


def is_error(paper, many):
    """Tell whether PAPER is a row of MANY fractions other than noughts."""
    return is_row(paper, many) and not is_noughts(paper)


def is_low_at(form, paper):
    """Tell whether PAPER is a row other than noughts at which the worth of FORM is 0 or below."""
    return is_error(paper, len(form)) and worth_at(form, paper)[0] <= 0


def is_square(value, many):
    return is_pair(value) and is_fraction(value[0]) and is_row(value[1], many)


def are_squares(form, paper):
    """Tell whether PAPER are squares of FORM."""
    many = len(form)
    if not is_tuple(paper) or len(paper) != many or not all([is_square(part, many) for part in paper]):
        return False
    for square in paper:
        form = less_square(form, square)
    return are_noughts(form) and free_count([row for _, row in paper], many) == many


def are_squares_above(form, paper):
    return are_squares(form, paper) and all([part[0] > 0 for part, _ in paper])


def splits_to(method, split, row):
    return are_fitting(split, method) and added_up(method, split) == row


def shows_positive(parts, paper):
    return are_squares_above(parts[0], paper)


def shows_not_positive(parts, paper):
    return is_low_at(parts[0], paper)


def shows_aid(parts, paper):
    return are_squares_above(gap_at(parts[0], parts[1:]), paper)


def shows_unsafe(parts, paper):
    return is_low_at(gap_at(parts[0], parts[1:]), paper)


def shows_whole(parts, paper):
    table, method = parts
    if not is_tuple(paper) or len(paper) != len(table):
        return False
    return all([splits_to(method, split, row) for split, row in zip(paper, unit_rows(len(table)))])


def shows_stays(parts, paper):
    table, method = parts
    return is_error(paper, len(table)) and is_noughts(applied(rows_of(method), applied(table, paper)))


def shows_cost(parts, paper):
    table, method, row, number = parts
    if not is_pair(paper):
        return False
    split, price = paper
    if not splits_to(method, split, row) or not is_row(price, len(table)):
        return False
    return cost_of(table, method, split) == number and bound_by(table, method, price, row) == number


def shows_factor_up_to(parts, paper):
    table, method, most = parts
    return are_squares(spare_cost(table, method, most), paper) and all([part[0] >= 0 for part, _ in paper])


def shows_factor_above(parts, paper):
    table, method, most = parts
    return is_row(paper, len(table)) and worth_at(spare_fall(table, method, most), applied(table, paper))[0] < 0


def ratio_beside(parts, paper):
    """Return a number with the sign of the ratio of the error PAPER less the told number; 0 for noughts."""
    table, team, number = parts
    return worth_at(ratio_form(table, team, number), applied(table, paper))[0]


def shows_ratios_from(parts, paper):
    table, team, number = parts
    return is_nothing(paper) and ratio_signs(table, team, number)[2] == 0


def shows_ratio_below(parts, paper):
    return is_row(paper, len(parts[0])) and ratio_beside(parts, paper) < 0


def shows_ratios_up_to(parts, paper):
    table, team, number = parts
    return is_nothing(paper) and ratio_signs(table, team, number)[0] == 0


def shows_ratio_above(parts, paper):
    return is_row(paper, len(parts[0])) and ratio_beside(parts, paper) > 0


def shows_dies(parts, paper):
    table, team, damping = parts
    return is_nothing(paper) and does_die(table, team, damping)


def shows_does_not_die(parts, paper):
    table, team, damping = parts
    if not is_error(paper, len(table)):
        return False
    behind = applied(damped_by(table, team, damping), paper)
    return minus(worth_at(table, behind), worth_at(table, paper))[0] >= 0


def shows_product_up_to(parts, paper):
    table, first, second, most = parts
    return is_nothing(paper) and is_from_nought(product_gap(table, first, second, most))


def shows_product_above(parts, paper):
    table, first, second, most = parts
    if not is_pair(paper) or not all([is_error(row, len(table)) for row in paper]):
        return False
    row, other = paper
    seen = applied(table, other)
    if not is_noughts(applied(first, applied(table, row))) or not is_noughts(applied(second, seen)):
        return False
    energies = times(worth_at(table, row), worth_at(table, other))
    met = dot(row, seen)
    return minus(times(met, met), times(most, energies))[0] > 0


def shows_ends(parts, paper):
    table, inner, coarse = parts
    return is_nothing(paper) and are_in_span(harmonics(table, inner), coarse)


def shows_goes_on(parts, paper):
    table, inner, coarse = parts
    method = (lot_aid(table, inner),)
    if len(coarse) > 0:
        method = method + (exact_aid_of(table, coarse),)
    return is_row(paper, len(table)) and not is_noughts(applied(errors_by(table, method), paper))


def shows_coarse_factor(parts, paper):
    table, smoother, coarse, most = parts
    return is_nothing(paper) and is_from_nought(measure_beside(table, smoother, coarse, most))


def shows_coarse_beyond(parts, paper):
    table, smoother, coarse, most = parts
    if not is_row(paper, len(table)) or not is_noughts(applied(coarse, paper)):
        return False
    return worth_at(measure_of(table, smoother, most), paper)[0] < 0


def shows_some_coarse(parts, paper):
    table, smoother, kept, count, most = parts
    if not are_coarse(paper, len(table)) or len(paper) != count or not are_in_span(kept, paper):
        return False
    return is_from_nought(measure_beside(table, smoother, paper, most))


def shows_no_coarse(parts, paper):
    table, smoother, kept, count, most = parts
    if not are_coarse(paper, len(table)) or len(paper) != count - len(kept) + 1:
        return False
    if not are_noughts([applied(kept, row) for row in paper]):
        return False
    return signs_of(form_on(measure_of(table, smoother, most), paper))[2] == len(paper)


def shows_never_worse(parts, paper):
    table, smoother, other = parts
    return is_nothing(paper) and is_from_nought(advantage(table, smoother, other))


def shows_worse(parts, paper):
    table, smoother, other = parts
    if not are_coarse(paper, len(table)) or len(paper) != len(table) - 1:
        return False
    # Behind these coarse rows there is one row y alone, but for multiples: the smoother that takes more off is better.
    return worth_at(advantage(table, smoother, other), noughts_basis(paper, len(table))[0])[0] < 0


PAPERS = {
    "positive": shows_positive, "not positive": shows_not_positive,
    "aid": shows_aid, "unsafe": shows_unsafe,
    "whole": shows_whole, "stays": shows_stays,
    "costs": shows_cost,
    "factor up to": shows_factor_up_to, "factor above": shows_factor_above,
    "ratios from": shows_ratios_from, "ratio below": shows_ratio_below,
    "ratios up to": shows_ratios_up_to, "ratio above": shows_ratio_above,
    "dies": shows_dies, "does not die": shows_does_not_die,
    "product up to": shows_product_up_to, "product above": shows_product_above,
    "ends": shows_ends, "goes on": shows_goes_on,
    "coarse factor": shows_coarse_factor, "coarse beyond": shows_coarse_beyond,
    "some coarse": shows_some_coarse, "no coarse": shows_no_coarse,
    "never worse": shows_never_worse, "worse": shows_worse,
}


def is_paper(claim, paper):
    """Tell whether PAPER, whatever it is, shows that the CLAIM is so; the claim is one for the checker."""
    shows = PAPERS[claim[0]]
    return shows(claim[1:], paper)
