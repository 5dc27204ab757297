"""Sums with Fraction, by other ways than the program's, and draws for the tests."""

import random
from fractions import Fraction
from itertools import combinations
from math import lcm


def pair(number):
    number = Fraction(number)
    return (number.numerator, number.denominator)


def pairs(numbers):
    return tuple(pair(number) for number in numbers)


def table(rows):
    return tuple(pairs(row) for row in rows)


def number(fraction):
    return Fraction(fraction[0], fraction[1])


def numbers(row):
    return [number(fraction) for fraction in row]


def grid(rows):
    return [numbers(row) for row in rows]


def is_fraction(value):
    if type(value) is not tuple or len(value) != 2:
        return False
    return all(type(part) is int for part in value) and value[1] > 0 and pair(number(value)) == value


def is_row(value, many):
    return type(value) is tuple and len(value) == many and all(is_fraction(part) for part in value)


def is_rows(value, many):
    return type(value) is tuple and all(is_row(row, many) for row in value)


def dot(first, second):
    return sum((x * y for x, y in zip(first, second)), Fraction(0))


def times(rows, row):
    return [dot(line, row) for line in rows]


def turned(rows):
    return [list(column) for column in zip(*rows)]


def product(first, second):
    return [[dot(row, column) for column in zip(*second)] for row in first]


def combined(one, first, two, second):
    return [[one * x + two * y for x, y in zip(row, line)] for row, line in zip(first, second)]


def units(many):
    return [[Fraction(int(at == place)) for place in range(many)] for at in range(many)]


def determinant(rows):
    """Laplace's sum, of whole numbers: not by taking rows off one another."""
    whole, divisor = [], 1
    for row in rows:
        low = lcm(*[Fraction(x).denominator for x in row])
        whole.append([int(x * low) for x in row])
        divisor *= low
    return Fraction(expanded(whole), divisor)


def expanded(rows):
    if not rows:
        return 1
    found, turn = 0, 1
    for place, number in enumerate(rows[0]):
        if number:
            found += turn * number * expanded([row[:place] + row[place + 1:] for row in rows[1:]])
        turn = -turn
    return found


def minor(rows, places, columns):
    return determinant([[rows[at][place] for place in columns] for at in places])


def inverse(rows):
    """Cramer's rule."""
    many, whole = len(rows), determinant(rows)

    def cofactor(at, place):
        part = minor(rows, [k for k in range(many) if k != at], [k for k in range(many) if k != place])
        return -part if (at + place) % 2 else part

    return [[cofactor(place, at) / whole for place in range(many)] for at in range(many)]


def rank(rows):
    """The greatest minor that is not 0, so not by taking rows off one another."""
    if not rows:
        return 0
    for many in range(min(len(rows), len(rows[0])), 0, -1):
        for places in combinations(range(len(rows)), many):
            for columns in combinations(range(len(rows[0])), many):
                if minor(rows, places, columns) != 0:
                    return many
    return 0


def are_free(rows):
    return rank(rows) == len(rows)


def on(form, rows):
    return [[dot(row, times(form, other)) for other in rows] for row in rows]


def worth(form, row):
    return dot(row, times(form, row))


def is_positive(form):
    return all(minor(form, range(k), range(k)) > 0 for k in range(1, len(form) + 1))


def is_from_nought(form):
    """All minors along are from 0 on."""
    places = range(len(form))
    return all(minor(form, some, some) >= 0 for k in range(1, len(form) + 1) for some in combinations(places, k))


def nulls(rows, many):
    """Free rows that are 0 with each of the free ROWS and together with them are free: by Gram and Schmidt."""
    held = []
    for row in rows:
        held.append(off(row, held))
    found = []
    for row in units(many):
        left = off(row, held + found)
        if any(left):
            found.append(left)
    return found


def off(row, held):
    for other in held:
        part = dot(row, other) / dot(other, other)
        row = [x - part * y for x, y in zip(row, other)]
    return row


def signs_below(form):
    """How many roots of the form's polynomial, all of them real, are below 0: Descartes."""
    places = range(len(form))
    parts = [sum(minor(form, some, some) for some in combinations(places, k)) for k in range(1, len(form) + 1)]
    signs = [True] + [part > 0 for part in parts if part != 0]
    return sum(one != two for one, two in zip(signs, signs[1:]))


def drawn_fraction(draw, reach=3):
    return Fraction(draw.randint(-reach, reach), draw.randint(1, reach))


def drawn_row(draw, many, reach=3):
    while True:
        row = [drawn_fraction(draw, reach) for _ in range(many)]
        if any(row):
            return row


def drawn_positive(draw, many, reach=3):
    while True:
        rows = [[drawn_fraction(draw, reach) for _ in range(many)] for _ in range(many)]
        form = product(rows, turned(rows))
        if determinant(form) != 0:
            return form


def drawn_free(draw, count, many):
    while True:
        rows = [drawn_row(draw, many, 2) for _ in range(count)]
        if are_free(rows):
            return rows


def drawn_spans(draw, many, more=0):
    """Two spans, together all rows: with as many as MORE rows in both, if there are so many."""
    least = min(1 + more, many)
    count = draw.randint(least, max(least, many - 1))
    first = drawn_free(draw, count, many)
    while True:
        second = drawn_free(draw, min(max(many - count + more, 1), many), many)
        if rank(first + second) == many:
            return first, second


def drawn_team(draw, many, aids):
    found = []
    for _ in range(aids):
        count = draw.randint(1, many)
        found.append((table(drawn_free(draw, count, many)), table(drawn_positive(draw, count, 2))))
    return tuple(found)


def drawn_smoother(draw, form):
    """A table with the gap D, D drawn: half of the form and of D, and a part that is turned over with the other sign."""
    many = len(form)
    gap = drawn_positive(draw, many)
    skew = [[drawn_fraction(draw, 2) for _ in range(many)] for _ in range(many)]
    half = Fraction(1, 2)
    return combined(1, combined(half, form, half, gap), 1, combined(1, skew, -1, turned(skew)))


def draws(seed):
    return random.Random(seed)


def summed(team):
    """S, worked out aid by aid with Cramer's rule."""
    many = len(team[0][0][0])
    found = [[Fraction(0)] * many for _ in range(many)]
    for rows, solver in team:
        rows, back = grid(rows), inverse(grid(solver))
        found = combined(1, found, 1, product(turned(rows), product(back, rows)))
    return found


def two_grid_errors(form, smoother, coarse):
    """The error table of the exact aid of COARSE and, behind it, the smoother."""
    many = len(form)
    errors = units(many)
    if coarse:
        step = product(turned(coarse), product(inverse(on(form, coarse)), product(coarse, form)))
        errors = combined(1, errors, -1, step)
    smoothing = combined(1, units(many), -1, product(inverse(smoother), form))
    return product(smoothing, errors)


def has_factor(form, errors, share):
    """Whether FOR ALL errors the energy behind is at most SHARE times the one ahead."""
    return is_from_nought(combined(share, form, -1, on(form, turned(errors))))


def is_near(form, left, found, many):
    """Whether FOUND tells near for MANY the greatest (worth of LEFT) / (worth of the positive FORM), below 1."""
    k, is_just = found
    here = combined(Fraction(k, many), form, -1, left)
    if type(k) is not int or type(is_just) is not bool or not 0 <= k < many:
        return False
    if not is_positive(combined(Fraction(k + 1, many), form, -1, left)) or is_positive(here):
        return False
    return is_from_nought(here) == is_just


def is_whole(rows, many):
    """Whether each row of MANY numbers is a sum of multiples of ROWS: R'R is positive."""
    return is_positive(product(turned(rows), rows)) if rows else many == 0


def drawn_forms(draw, many):
    """Forms that are 0, 0 along only, from 0 on and not positive, below 0, of both signs, and positive."""
    yield [[Fraction(0)] * many for _ in range(many)]
    for _ in range(3):
        rows = [[drawn_fraction(draw, 2) for _ in range(many)] for _ in range(many)]
        form = combined(1, rows, 1, turned(rows))
        yield form
        yield [[Fraction(0) if at == place else x for place, x in enumerate(row)] for at, row in enumerate(form)]
        thin = [[drawn_fraction(draw, 2)] for _ in range(many)]
        yield product(thin, turned(thin))
    positive = drawn_positive(draw, many)
    yield positive
    yield [[-x for x in row] for row in positive]
    rows = drawn_free(draw, many - 1, many)
    if rows:
        yield product(turned(rows), rows)


def less_gap(form, aid):
    """The gap M + M' - W A W' of an aid, or of any rows with any solver."""
    rows, solver = grid(aid[0]), grid(aid[1])
    return combined(1, combined(1, solver, 1, turned(solver)), -1, on(form, rows))


def exact_aid(form, rows):
    return (table(rows), table(on(form, rows)))


def drawn_aid(draw, form, count=None):
    """An aid that is exact, or that has a drawn gap and a solver that is not alike turned over."""
    rows = drawn_free(draw, count or draw.randint(1, len(form)), len(form))
    if draw.randint(0, 2) == 0:
        return exact_aid(form, rows)
    return (table(rows), table(drawn_smoother(draw, on(form, rows))))


def drawn_method(draw, form, aids, count=None):
    return tuple(drawn_aid(draw, form, count) for _ in range(aids))


def drawn_methods(seed):
    """Tables of 1 to 5 rows with drawn methods: of one aid, of two, three and eight aids, whole and not."""
    for many in range(1, 6):
        for at, aids in enumerate((1, 2, 3, 8)):
            draw = draws(1000 * seed + 10 * many + at)
            form = drawn_positive(draw, many, 2)
            yield draw, form, table(form), drawn_method(draw, form, aids, 1 if at == 1 else None)


def whole_methods(seed):
    """Drawn methods, each with exact aids of the single places behind it, in the place of its last ones, where it is not whole."""
    for draw, form, told, method in drawn_methods(seed):
        if not is_whole(all_rows(method), len(form)):
            method = method[:3] + tuple(exact_aid(form, [row]) for row in units(len(form)))
        yield draw, form, told, method


def all_rows(method):
    return [numbers(row) for rows, _ in method for row in rows]


def sum_of_rows(factors, rows, many):
    found = [Fraction(0)] * many
    for factor, row in zip(factors, rows):
        found = [x + factor * y for x, y in zip(found, row)]
    return found


def less(first, second):
    return [x - y for x, y in zip(first, second)]


def numbers_taken(form, aid, error):
    """M^-1 (W A e)."""
    return times(inverse(grid(aid[1])), times(grid(aid[0]), times(form, error)))


def aid_step(form, aid, error):
    return less(error, sum_of_rows(numbers_taken(form, aid, error), grid(aid[0]), len(form)))


def method_step(form, method, error):
    """What the aids make of an error, one behind another."""
    for aid in method:
        error = aid_step(form, aid, error)
    return error


def error_table(form, method):
    return turned([method_step(form, method, row) for row in units(len(form))])


def turned_about(method):
    return tuple((rows, tuple(zip(*solver))) for rows, solver in reversed(method))


def joined(form, method):
    """L, number by number: each with the aids of its row and of its column."""
    owners = [(at, place) for at, (rows, _) in enumerate(method) for place in range(len(rows))]

    def entry(row, column):
        if row[0] == column[0]:
            return number(method[row[0]][1][row[1]][column[1]])
        if row[0] < column[0]:
            return Fraction(0)
        return dot(numbers(method[row[0]][0][row[1]]), times(form, numbers(method[column[0]][0][column[1]])))

    return [[entry(row, column) for column in owners] for row in owners]


def mean(form, method):
    """B, by E* E = 1 - B A with E* worked out aid by aid."""
    back = product(error_table(form, turned_about(method)), error_table(form, method))
    return product(combined(1, units(len(form)), -1, back), inverse(form))


def cut(flat, method):
    """The numbers of FLAT as a split for the method."""
    found = []
    for rows, _ in method:
        found.append(pairs(flat[:len(rows)]))
        flat = flat[len(rows):]
    return tuple(found)


def split_cost(form, method, split):
    """The sum of the worths of the inverse gaps at the parts of L' u."""
    flat = [number(x) for part in split for x in part]
    charges = cut(times(turned(joined(form, method)), flat), method)
    return sum(worth(inverse(less_gap(form, aid)), numbers(charge)) for aid, charge in zip(method, charges))
