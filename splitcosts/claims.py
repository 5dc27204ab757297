"""Claims: a text, and behind it the parts that it is about, each as the document tells it."""

from splitcosts.kinds import are_coarse, is_above_nought, is_amount, is_form, is_fraction, is_inner, is_method_for
from splitcosts.kinds import is_number_from, is_positive_table, is_row, is_share, is_span, is_table_of, is_team_of
from splitcosts.kinds import is_text, is_tuple, smooths
from splitcosts.spans import are_all
from splitcosts.sweeps import rows_of


def has_table(parts, many):
    """Tell whether PARTS are as MANY, the first of them a table that the others may be for."""
    return len(parts) == many and is_positive_table(parts[0])


def is_whole_method(table, value):
    return is_method_for(table, value) and are_all(rows_of(value))


def of_form(parts):
    return len(parts) == 1 and is_form(parts[0])


def of_rows_and_solver(parts):
    if not has_table(parts, 3):
        return False
    table, rows, solver = parts
    return is_span(rows, len(table)) and is_table_of(solver, len(rows))


def of_method(parts):
    return has_table(parts, 2) and is_method_for(parts[0], parts[1])


def of_cost(parts):
    if not has_table(parts, 4):
        return False
    table, method, row, number = parts
    return is_whole_method(table, method) and is_row(row, len(table)) and is_fraction(number)


def of_factor(parts):
    return has_table(parts, 3) and is_whole_method(parts[0], parts[1]) and is_share(parts[2])


def of_ratio(parts):
    return has_table(parts, 3) and is_team_of(parts[1], len(parts[0])) and is_amount(parts[2])


def of_damping(parts):
    return has_table(parts, 3) and is_team_of(parts[1], len(parts[0])) and is_above_nought(parts[2])


def of_product(parts):
    if not has_table(parts, 4):
        return False
    table, first, second, most = parts
    are_spans = is_span(first, len(table)) and is_span(second, len(table))
    return are_spans and are_all(first + second) and is_share(most)


def of_end(parts):
    return has_table(parts, 3) and is_inner(parts[1], len(parts[0])) and are_coarse(parts[2], len(parts[0]))


def of_coarse(parts):
    if not has_table(parts, 4):
        return False
    table, smoother, coarse, most = parts
    return smooths(table, smoother) and are_coarse(coarse, len(table)) and is_share(most)


def of_best(parts):
    if not has_table(parts, 5):
        return False
    table, smoother, kept, count, most = parts
    if not smooths(table, smoother) or not are_coarse(kept, len(table)):
        return False
    return is_number_from(count, len(kept), len(table)) and is_share(most)


def of_smoothers(parts):
    return has_table(parts, 3) and smooths(parts[0], parts[1]) and smooths(parts[0], parts[2])


CLAIMS = {
    "positive": of_form, "not positive": of_form,
    "aid": of_rows_and_solver, "unsafe": of_rows_and_solver,
    "whole": of_method, "stays": of_method,
    "costs": of_cost,
    "factor up to": of_factor, "factor above": of_factor,
    "ratios from": of_ratio, "ratio below": of_ratio, "ratios up to": of_ratio, "ratio above": of_ratio,
    "dies": of_damping, "does not die": of_damping,
    "product up to": of_product, "product above": of_product,
    "ends": of_end, "goes on": of_end,
    "coarse factor": of_coarse, "coarse beyond": of_coarse,
    "some coarse": of_best, "no coarse": of_best,
    "never worse": of_smoothers, "worse": of_smoothers,
}


def is_claim(value):
    """Tell whether VALUE, whatever it is, is a claim for the checker, be it so or not."""
    if not is_tuple(value) or len(value) == 0 or not is_text(value[0]) or value[0] not in CLAIMS:
        return False
    are_parts = CLAIMS[value[0]]
    return are_parts(value[1:])
