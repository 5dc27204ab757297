"""The checker once more, with other sums than the program's: whether a paper is one for a claim of which all parts are right."""

from fractions import Fraction

import helpers as h


def is_nothing(paper):
    return paper == () and type(paper) is tuple


def is_error(paper, many):
    return h.is_row(paper, many) and any(h.numbers(paper))


def are_free_rows(paper, count, many):
    return h.is_rows(paper, many) and len(paper) == count and h.are_free(h.grid(paper))


def are_squares(form, paper, least):
    """Squares with fractions from LEAST on: they add up to the form in each place."""
    many = len(form)
    if type(paper) is not tuple or len(paper) != many:
        return False
    if not all(type(part) is tuple and len(part) == 2 and h.is_fraction(part[0]) and h.is_row(part[1], many) for part in paper):
        return False
    factors, rows = [h.number(part) for part, _ in paper], [h.numbers(row) for _, row in paper]
    if min(part.numerator for part in factors) < least or not h.are_free(rows):
        return False
    places = range(many)
    return all(form[at][k] == sum(x * row[at] * row[k] for x, row in zip(factors, rows)) for at in places for k in places)


def is_split(method, paper, row):
    if type(paper) is not tuple or len(paper) != len(method):
        return False
    if not all(h.is_row(part, len(rows)) for part, (rows, _) in zip(paper, method)):
        return False
    flat = [h.number(x) for part in paper for x in part]
    return h.sum_of_rows(flat, h.all_rows(method), len(row)) == row


def of_form(text, paper, form):
    form = h.grid(form)
    if text == "positive":
        return are_squares(form, paper, 1)
    return is_error(paper, len(form)) and h.worth(form, h.numbers(paper)) <= 0


def of_solver(text, paper, table, rows, solver):
    form = h.less_gap(h.grid(table), (rows, solver))
    return of_form("positive" if text == "aid" else "", paper, h.table(form))


def of_method(text, paper, table, method):
    many = len(table)
    if text == "whole":
        right = type(paper) is tuple and len(paper) == many
        return right and all(is_split(method, split, row) for split, row in zip(paper, h.units(many)))
    seen = h.times(h.grid(table), h.numbers(paper)) if is_error(paper, many) else None
    return seen is not None and not any(h.times(h.all_rows(method), seen))


def of_cost(text, paper, table, method, row, cost):
    if type(paper) is not tuple or len(paper) != 2:
        return False
    form, row, cost = h.grid(table), h.numbers(row), h.number(cost)
    if not is_split(method, paper[0], row) or not h.is_row(paper[1], len(form)):
        return False
    price = h.numbers(paper[1])
    bound = 2 * h.dot(price, row) - h.worth(h.mean(form, method), price)
    return h.split_cost(form, method, paper[0]) == cost == bound


def of_factor(text, paper, table, method, most):
    form, share = h.grid(table), h.number(most)
    if text == "factor up to":
        return are_squares(h.combined(1 / (1 - share), form, -1, h.inverse(h.mean(form, method))), paper, 0)
    if not h.is_row(paper, len(form)):
        return False
    error = h.numbers(paper)
    return h.worth(form, h.method_step(form, method, error)) > share * h.worth(form, error)


def of_ratio(text, paper, table, team, number):
    form, x = h.grid(table), h.number(number)
    summed, back = h.summed(team), h.inverse(form)
    if text == "ratios from":
        return is_nothing(paper) and h.is_from_nought(h.combined(1, summed, -x, back))
    if text == "ratios up to":
        return is_nothing(paper) and h.is_from_nought(h.combined(x, back, -1, summed))
    if not is_error(paper, len(form)):
        return False
    error = h.numbers(paper)
    ratio = h.worth(summed, h.times(form, error)) / h.worth(form, error)
    return ratio < x if text == "ratio below" else ratio > x


def of_damping(text, paper, table, team, damping):
    form, w = h.grid(table), h.number(damping)
    summed, back = h.summed(team), h.inverse(form)
    if text == "dies":
        falls = h.is_positive(h.combined(2, back, -w, summed))
        return is_nothing(paper) and h.is_whole(h.all_rows(team), len(form)) and falls
    if not is_error(paper, len(form)):
        return False
    error = h.numbers(paper)
    taken = h.times(summed, h.times(form, error))
    behind = [x - w * y for x, y in zip(error, taken)]
    return h.worth(form, behind) >= h.worth(form, error)


def of_product(text, paper, table, first, second, most):
    form, share = h.grid(table), h.number(most)
    first, second = h.grid(first), h.grid(second)
    if text == "product up to":
        errors = h.error_table(form, (h.exact_aid(form, first), h.exact_aid(form, second)))
        return is_nothing(paper) and h.has_factor(form, errors, share)
    if type(paper) is not tuple or len(paper) != 2 or not all(is_error(row, len(form)) for row in paper):
        return False
    x, y = h.grid(paper)
    if any(h.times(first, h.times(form, x))) or any(h.times(second, h.times(form, y))):
        return False
    return h.dot(x, h.times(form, y)) ** 2 > share * h.worth(form, x) * h.worth(form, y)


def of_end(text, paper, table, inner, coarse):
    form = h.grid(table)
    method = (h.exact_aid(form, [h.units(len(form))[at] for at in inner]),)
    method = method + ((h.exact_aid(form, h.grid(coarse)),) if coarse else ())
    if text == "ends":
        return is_nothing(paper) and not any(map(any, h.error_table(form, method)))
    return h.is_row(paper, len(form)) and any(h.method_step(form, method, h.numbers(paper)))


def of_coarse(text, paper, table, smoother, coarse, most):
    form, share = h.grid(table), h.number(most)
    smoother, coarse = h.grid(smoother), h.grid(coarse)
    if text == "coarse factor":
        return is_nothing(paper) and h.has_factor(form, h.two_grid_errors(form, smoother, coarse), share)
    if not h.is_row(paper, len(form)) or any(h.times(coarse, h.numbers(paper))):
        return False
    # The error with A e = y is one behind the coarse step.
    error = h.times(h.inverse(form), h.numbers(paper))
    left = h.times(h.two_grid_errors(form, smoother, []), error)
    return h.worth(form, left) > share * h.worth(form, error)


def of_best(text, paper, table, smoother, kept, count, most):
    form, share = h.grid(table), h.number(most)
    smoother, kept = h.grid(smoother), h.grid(kept)
    if text == "some coarse":
        if not are_free_rows(paper, count, len(form)) or h.rank(h.grid(paper) + kept) != count:
            return False
        return h.has_factor(form, h.two_grid_errors(form, smoother, h.grid(paper)), share)
    if not are_free_rows(paper, count - len(kept) + 1, len(form)):
        return False
    rows = h.grid(paper)
    if any(any(h.times(kept, row)) for row in rows):
        return False
    energies = h.inverse(form)
    left = h.on(form, h.turned(h.product(h.two_grid_errors(form, smoother, []), energies)))
    return h.is_positive(h.on(h.combined(1, left, -share, energies), rows))


def of_smoothers(text, paper, table, smoother, other):
    form, many = h.grid(table), len(table)
    left = [h.on(form, h.turned(h.two_grid_errors(form, h.grid(some), []))) for some in (smoother, other)]
    worse = h.combined(1, left[0], -1, left[1])
    if text == "never worse":
        return is_nothing(paper) and h.is_from_nought([[-x for x in row] for row in worse])
    if not are_free_rows(paper, many - 1, many):
        return False
    error = h.times(h.inverse(form), h.nulls(h.grid(paper), many)[0])
    return h.worth(worse, error) > 0


PAPERS = {
    "positive": of_form, "not positive": of_form, "aid": of_solver, "unsafe": of_solver, "whole": of_method, "stays": of_method,
    "costs": of_cost, "factor up to": of_factor, "factor above": of_factor, "ratios from": of_ratio, "ratio below": of_ratio,
    "ratios up to": of_ratio, "ratio above": of_ratio, "dies": of_damping, "does not die": of_damping,
    "product up to": of_product, "product above": of_product, "ends": of_end, "goes on": of_end, "coarse factor": of_coarse,
    "coarse beyond": of_coarse, "some coarse": of_best, "no coarse": of_best, "never worse": of_smoothers, "worse": of_smoothers,
}
EXCLUDED = {"positive": "not positive", "aid": "unsafe", "whole": "stays", "factor up to": "factor above",
            "ratios from": "ratio below", "ratios up to": "ratio above", "dies": "does not die",
            "product up to": "product above", "ends": "goes on", "coarse factor": "coarse beyond", "some coarse": "no coarse",
            "never worse": "worse"}
EXCLUDED |= {other: text for text, other in EXCLUDED.items()}
# Of these nothing but () is a paper.
BARE = ("ratios from", "ratios up to", "dies", "product up to", "ends", "coarse factor", "never worse")


def is_right(claim, paper):
    return PAPERS[claim[0]](claim[0], paper, *claim[1:])


def excluded(claim):
    """The claim that CLAIM excludes; None for a cost."""
    return (EXCLUDED[claim[0]],) + claim[1:] if claim[0] in EXCLUDED else None


def own_squares(form, draw):
    """Squares of a form from 0 on: the last places first, each then split up in another size, the order drawn."""
    many, found = len(form), []
    for at in reversed(range(many)):
        part = form[at][at]
        if part == 0:
            continue
        row = [x / part for x in form[at]]
        form = [[x - part * row[k] * row[j] for j, x in enumerate(line)] for k, line in enumerate(form)]
        size = Fraction(draw.choice((1, 2, -3)), draw.randint(1, 3))
        found.append((part / size ** 2, [size * x for x in row]))
    for row in h.units(many):
        if h.are_free([line for _, line in found] + [row]):
            found.append((Fraction(0), row))
    draw.shuffle(found)
    return tuple((h.pair(part), h.pairs(row)) for part, row in found)


def scaled(row, factor):
    return h.pairs([factor * x for x in h.numbers(row)])


def mixed(draw, rows):
    """Other rows of the same span."""
    if not rows:
        return ()
    return h.table(h.product(h.drawn_free(draw, len(rows), len(rows)), h.grid(rows)))


def other_splits(draw, method, paper):
    """Each split and, beside it, drawn numbers that add up to noughts."""
    rows, found = h.all_rows(method), []
    nothing = h.nulls(h.turned(rows), len(rows))
    for split in paper:
        flat = [h.number(x) for part in split for x in part]
        for change in nothing:
            factor = h.drawn_fraction(draw)
            flat = [x + factor * y for x, y in zip(flat, change)]
        found.append(h.cut(flat, method))
    return tuple(found)


def own_cost_paper(form, method, row):
    """The price B^-1 v, and by it the split L'^-1 G L^-1 R y."""
    price = h.times(h.inverse(h.mean(form, method)), row)
    answers = h.times(h.inverse(h.joined(form, method)), h.times(h.all_rows(method), price))
    charges = []
    for aid in method:
        charges += h.times(h.less_gap(form, aid), answers[len(charges):len(charges) + len(aid[0])])
    return (h.cut(h.times(h.inverse(h.turned(h.joined(form, method))), charges), method), h.pairs(price))


def other_paper(draw, claim, paper):
    """Another right paper for a claim that PAPER is right for."""
    text = claim[0]
    if text == "positive":
        return own_squares(h.grid(claim[1]), draw)
    if text == "aid":
        return own_squares(h.less_gap(h.grid(claim[1]), claim[2:]), draw)
    if text == "factor up to":
        form, share = h.grid(claim[1]), h.number(claim[3])
        return own_squares(h.combined(1 / (1 - share), form, -1, h.inverse(h.mean(form, claim[2]))), draw)
    if text == "whole":
        return other_splits(draw, claim[2], paper)
    if text == "costs":
        return own_cost_paper(h.grid(claim[1]), claim[2], h.numbers(claim[3])) if len(h.all_rows(claim[2])) < 7 else paper
    if text == "product above":
        return (scaled(paper[0], Fraction(-3, 2)), scaled(paper[1], 5))
    if text in ("some coarse", "no coarse", "worse"):
        return mixed(draw, paper)
    return paper if text in BARE else scaled(paper, Fraction(-2, 3))
