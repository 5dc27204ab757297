"""Squares of forms, and what they tell of them: the signs, and rows at which the worth is low."""

from splitcosts.fracs import NIL, ONE, minus, over, times
from splitcosts.rows import applied, dot, row_less, row_plus, row_times, turned_over, unit_row
from splitcosts.spans import inverse


def worth_at(form, row):
    return dot(row, applied(form, row))


def pivot(form, places):
    """Return two of the PLACES, perhaps the same, where the FORM is not 0, first of all one along; None."""
    for at in places:
        if form[at][at][0] != 0:
            return (at, at)
    for at in places:
        for beside in places:
            if form[at][beside][0] != 0:
                return (at, beside)
    return None


def pivot_squares(form, at, beside):
    """Return one or two squares that less FORM leaves 0 in the rows AT and BESIDE."""
    part = form[at][beside]
    if at == beside:
        return [(part, row_times(over(ONE, part), form[at]))]
    # 0 stands along at both places: a product of two rows is told by their sum and their difference.
    half = over(ONE, times((2, 1), part))
    return [(half, row_plus(form[at], form[beside])), (minus(NIL, half), row_less(form[at], ONE, form[beside]))]


def less_square(form, square):
    part, row = square
    return tuple([row_less(line, times(part, number), row) for line, number in zip(form, row)])


def squares_of(form):
    """Return squares of FORM: as many pairs of a fraction and a row as it has rows, the rows free."""
    found, places = [], list(range(len(form)))
    while places:
        pair = pivot(form, places)
        if pair is None:
            return found + [(NIL, unit_row(len(form), place)) for place in places]
        squares = pivot_squares(form, pair[0], pair[1])
        for square in squares:
            form = less_square(form, square)
        found = found + squares
        places = [place for place in places if place not in pair]
    return found


def signs_of(form):
    """Return how many fractions of the squares of FORM are above 0, 0 and below 0."""
    tops = [part[0] for part, _ in squares_of(form)]
    above = len([top for top in tops if top > 0])
    nought = len([top for top in tops if top == 0])
    return (above, nought, len(tops) - above - nought)


def is_positive(form):
    return signs_of(form)[0] == len(form)


def is_from_nought(form):
    return signs_of(form)[2] == 0


def axes_of(form):
    """Return as many pairs of a fraction and a row as FORM has rows, the rows free.

    At each sum of multiples of these rows the worth is the sum of fraction * multiple * multiple.
    """
    squares = squares_of(form)
    rows = turned_over(inverse([row for _, row in squares]))
    return [(square[0], row) for square, row in zip(squares, rows)]


def low_rows(form):
    """Return the rows of the axes at which the worth is 0 or below; there is none if FORM is positive."""
    return [row for part, row in axes_of(form) if part[0] <= 0]


def rows_below(form):
    """Return as many free rows as FORM has signs below: the worth is below 0 at all their sums but noughts."""
    return [row for part, row in axes_of(form) if part[0] < 0]
