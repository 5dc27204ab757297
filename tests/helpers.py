"""Sums with Fraction, by other ways than the program's, and draws for the tests."""

import random
from fractions import Fraction
from itertools import combinations
from math import lcm


def pair(number):
    number = Fraction(number)
    return (number.numerator, number.denominator)


def pairs(numbers):
    return tuple(pair(number) for number in numbers)


def table(rows):
    return tuple(pairs(row) for row in rows)


def number(fraction):
    return Fraction(fraction[0], fraction[1])


def numbers(row):
    return [number(fraction) for fraction in row]


def grid(rows):
    return [numbers(row) for row in rows]


def is_fraction(value):
    if type(value) is not tuple or len(value) != 2:
        return False
    return all(type(part) is int for part in value) and value[1] > 0 and pair(number(value)) == value


def is_row(value, many):
    return type(value) is tuple and len(value) == many and all(is_fraction(part) for part in value)


def is_rows(value, many):
    return type(value) is tuple and all(is_row(row, many) for row in value)


def dot(first, second):
    return sum((x * y for x, y in zip(first, second)), Fraction(0))


def times(rows, row):
    return [dot(line, row) for line in rows]


def turned(rows):
    return [list(column) for column in zip(*rows)]


def product(first, second):
    return [[dot(row, column) for column in zip(*second)] for row in first]


def combined(one, first, two, second):
    return [[one * x + two * y for x, y in zip(row, line)] for row, line in zip(first, second)]


def units(many):
    return [[Fraction(int(at == place)) for place in range(many)] for at in range(many)]


def determinant(rows):
    """Laplace's sum, of whole numbers: not by taking rows off one another."""
    whole, divisor = [], 1
    for row in rows:
        low = lcm(*[Fraction(x).denominator for x in row])
        whole.append([int(x * low) for x in row])
        divisor *= low
    return Fraction(expanded(whole), divisor)


def expanded(rows):
    if not rows:
        return 1
    found, turn = 0, 1
    for place, number in enumerate(rows[0]):
        if number:
            found += turn * number * expanded([row[:place] + row[place + 1:] for row in rows[1:]])
        turn = -turn
    return found


def minor(rows, places, columns):
    return determinant([[rows[at][place] for place in columns] for at in places])


def inverse(rows):
    """Cramer's rule."""
    many, whole = len(rows), determinant(rows)

    def cofactor(at, place):
        part = minor(rows, [k for k in range(many) if k != at], [k for k in range(many) if k != place])
        return -part if (at + place) % 2 else part

    return [[cofactor(place, at) / whole for place in range(many)] for at in range(many)]


def rank(rows):
    """The greatest minor that is not 0, so not by taking rows off one another."""
    if not rows:
        return 0
    for many in range(min(len(rows), len(rows[0])), 0, -1):
        for places in combinations(range(len(rows)), many):
            for columns in combinations(range(len(rows[0])), many):
                if minor(rows, places, columns) != 0:
                    return many
    return 0


def are_free(rows):
    return rank(rows) == len(rows)


def on(form, rows):
    return [[dot(row, times(form, other)) for other in rows] for row in rows]


def worth(form, row):
    return dot(row, times(form, row))


def is_positive(form):
    return all(minor(form, range(k), range(k)) > 0 for k in range(1, len(form) + 1))


def is_from_nought(form):
    """All minors along are from 0 on."""
    places = range(len(form))
    return all(minor(form, some, some) >= 0 for k in range(1, len(form) + 1) for some in combinations(places, k))


def nulls(rows, many):
    """Free rows that are 0 with each of the free ROWS and together with them are free: by Gram and Schmidt."""
    held = []
    for row in rows:
        held.append(off(row, held))
    found = []
    for row in units(many):
        left = off(row, held + found)
        if any(left):
            found.append(left)
    return found


def off(row, held):
    for other in held:
        part = dot(row, other) / dot(other, other)
        row = [x - part * y for x, y in zip(row, other)]
    return row


def signs_below(form):
    """How many roots of the form's polynomial, all of them real, are below 0: Descartes."""
    places = range(len(form))
    parts = [sum(minor(form, some, some) for some in combinations(places, k)) for k in range(1, len(form) + 1)]
    signs = [True] + [part > 0 for part in parts if part != 0]
    return sum(one != two for one, two in zip(signs, signs[1:]))


def drawn_fraction(draw, reach=3):
    return Fraction(draw.randint(-reach, reach), draw.randint(1, reach))


def drawn_row(draw, many, reach=3):
    while True:
        row = [drawn_fraction(draw, reach) for _ in range(many)]
        if any(row):
            return row


def drawn_positive(draw, many, reach=3):
    while True:
        rows = [[drawn_fraction(draw, reach) for _ in range(many)] for _ in range(many)]
        form = product(rows, turned(rows))
        if determinant(form) != 0:
            return form


def drawn_free(draw, count, many):
    while True:
        rows = [drawn_row(draw, many, 2) for _ in range(count)]
        if are_free(rows):
            return rows


def drawn_team(draw, many, aids):
    found = []
    for _ in range(aids):
        count = draw.randint(1, many)
        found.append((table(drawn_free(draw, count, many)), table(drawn_positive(draw, count, 2))))
    return tuple(found)


def drawn_smoother(draw, form):
    """A table with the gap D, D drawn: half of the form and of D, and a part that is turned over with the other sign."""
    many = len(form)
    gap = drawn_positive(draw, many)
    skew = [[drawn_fraction(draw, 2) for _ in range(many)] for _ in range(many)]
    half = Fraction(1, 2)
    return combined(1, combined(half, form, half, gap), 1, combined(1, skew, -1, turned(skew)))


def draws(seed):
    return random.Random(seed)


def summed(team):
    """S, worked out aid by aid with Cramer's rule."""
    many = len(team[0][0][0])
    found = [[Fraction(0)] * many for _ in range(many)]
    for rows, solver in team:
        rows, back = grid(rows), inverse(grid(solver))
        found = combined(1, found, 1, product(turned(rows), product(back, rows)))
    return found


def two_grid_errors(form, smoother, coarse):
    """The error table of the exact aid of COARSE and, behind it, the smoother."""
    many = len(form)
    errors = units(many)
    if coarse:
        step = product(turned(coarse), product(inverse(on(form, coarse)), product(coarse, form)))
        errors = combined(1, errors, -1, step)
    smoothing = combined(1, units(many), -1, product(inverse(smoother), form))
    return product(smoothing, errors)


def has_factor(form, errors, share):
    """Whether FOR ALL errors the energy behind is at most SHARE times the one ahead."""
    return is_from_nought(combined(share, form, -1, on(form, turned(errors))))
