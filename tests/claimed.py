"""Drawn arguments for the certificates, for tables of 1 to 5 rows: such that each of the claims comes."""

from fractions import Fraction

import helpers as h
from splitcosts import certificates as c
from splitcosts import coarse, factors, inner, smoothers, together, twospans

NEAR = 10 ** 5
SHARES = (Fraction(0), Fraction(1, 7), Fraction(1, 2), Fraction(99, 100))


def about(k, many, top):
    """Numbers from 0 on: just below and just above k / MANY, below TOP."""
    near = [Fraction(x, many) for x in (k - 1, k, k + 1)]
    return [h.pair(x) for x in near if x >= 0 and (top is None or x < top)]


def of_forms(draw, many):
    for form in h.drawn_forms(draw, many):
        yield c.certify_positive, (h.table(form),)
    form = h.drawn_positive(draw, many)
    for gap in h.drawn_forms(draw, draw.randint(1, many)):
        rows = h.drawn_free(draw, len(gap), many)
        skew = [[h.drawn_fraction(draw, 2) for _ in gap] for _ in gap]
        half = h.combined(Fraction(1, 2), gap, Fraction(1, 2), h.on(form, rows))
        solver = h.combined(1, half, 1, h.combined(1, skew, -1, h.turned(skew)))
        yield c.certify_aid, (h.table(form), h.table(rows), h.table(solver))


def of_methods(draw, many):
    form = h.drawn_positive(draw, many, 2)
    table = h.table(form)
    for aids in (1, 2, 3):
        yield c.certify_whole, (table, h.drawn_method(draw, form, aids, 1))
    whole = [(h.drawn_aid(draw, form, many),), (h.drawn_aid(draw, form), h.drawn_aid(draw, form, many)),
             tuple(h.exact_aid(form, [row]) for row in h.drawn_free(draw, many, many))]
    for method in whole:
        yield c.certify_whole, (table, method)
        yield c.certify_cost, (table, method, h.pairs(h.drawn_row(draw, many)))
        k, _ = factors.factor_near(table, method, NEAR)
        for most in about(k, NEAR, 1) + [h.pair(share) for share in SHARES]:
            yield c.certify_factor, (table, method, most)
    yield c.certify_cost, (table, whole[1], ((0, 1),) * many)


def of_teams(draw, many):
    form = h.drawn_positive(draw, many)
    table = h.table(form)
    for team in (h.drawn_team(draw, many, 1), h.drawn_team(draw, many, 3), (h.exact_aid(form, h.drawn_free(draw, many, many)),)):
        least, most = together.least_ratio_near(table, team, NEAR)[0], together.greatest_ratio_near(table, team, NEAR)[0]
        for number in about(least, NEAR, None) + about(most, NEAR, None):
            yield c.certify_ratios_from, (table, team, number)
            yield c.certify_ratios_up_to, (table, team, number)
        for damping in (Fraction(2 * NEAR, most + 1), Fraction(2 * NEAR, max(most, 1)), Fraction(1, most + 1), Fraction(5 * NEAR, most + 1)):
            yield c.certify_damping, (table, team, h.pair(damping))


def of_spans(draw, many):
    form = h.drawn_positive(draw, many)
    table = h.table(form)
    for more in (0, 1, 5):
        first, second = [h.table(rows) for rows in h.drawn_spans(draw, many, more)]
        k, _ = twospans.product_near(table, first, second, NEAR)
        for most in about(k, NEAR, 1) + [(0, 1)]:
            yield c.certify_product, (table, first, second, most)
    for count in range(1, many):
        lot = tuple(sorted(draw.sample(range(many), count)))
        rows = inner.harmonic_rows(table, lot)
        for some in (rows, rows[1:], h.table(h.drawn_free(draw, draw.randint(0, many), many)), table, ()):
            yield c.certify_end, (table, lot, some)


def of_smoothers(draw, many):
    form = h.drawn_positive(draw, many)
    table, smoother, other = h.table(form), *[h.table(h.drawn_smoother(draw, form)) for _ in range(2)]
    for count in range(many + 1):
        rows = h.table(h.drawn_free(draw, count, many))
        k, _ = coarse.coarse_factor_near(table, smoother, rows, NEAR)
        for most in about(k, NEAR, 1) + [(0, 1)]:
            yield c.certify_coarse, (table, smoother, rows, most)
        for some in sorted({count, min(count + 1, many), many}):
            k, _ = coarse.best_factor_near(table, smoother, rows, some, NEAR)
            for most in about(k, NEAR, 1)[1:]:
                yield c.certify_best, (table, smoother, rows, some, most)
    lower = smoothers.lower_smoother(table)
    for first, second in ((smoother, other), (other, smoother), (table, other), (other, table), (lower, tuple(zip(*lower)))):
        yield c.certify_smoothers, (table, first, second)


def arguments(many, seed=0):
    """Functions of the certificates, each with arguments."""
    draw = h.draws(100 * many + seed)
    for some in (of_forms, of_methods, of_teams, of_spans, of_smoothers):
        yield from some(draw, many)
