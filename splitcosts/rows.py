"""Sums with rows and with tables, which are tuples of rows."""

from splitcosts.fracs import NIL, ONE, less_times, plus, reduced, times


def dot(first, second):
    """Return the sum of the products of two rows, number by number."""
    top, low = 0, 1
    for (number, divisor), (other, beside) in zip(first, second):
        part = divisor * beside
        top, low = top * part + number * other * low, low * part
    return reduced(top, low)


def row_times(factor, row):
    return tuple([times(factor, number) for number in row])


def row_plus(first, second):
    return tuple([plus(number, other) for number, other in zip(first, second)])


def row_less(first, factor, second):
    """Return FIRST - FACTOR * SECOND."""
    return tuple([less_times(number, factor, other) for number, other in zip(first, second)])


def unit_row(many, place):
    return tuple([ONE if at == place else NIL for at in range(many)])


def unit_rows(many):
    return tuple([unit_row(many, place) for place in range(many)])


def spread(row, places, many):
    """Return the row of MANY numbers that has those of ROW at the PLACES, 0 elsewhere."""
    numbers = [NIL] * many
    for place, number in zip(places, row):
        numbers[place] = number
    return tuple(numbers)


def applied(table, row):
    """Return the row of the products of each row of TABLE with ROW."""
    return tuple([dot(line, row) for line in table])


def turned_over(table):
    """Return rows for columns."""
    return tuple(zip(*table))


def mixed(factors, rows):
    """Return the sum of the ROWS, each times its factor; there is a row."""
    return applied(turned_over(rows), factors)


def multiplied(first, second):
    columns = turned_over(second)
    return tuple([applied(columns, row) for row in first])


def form_on(form, rows):
    """Return W F W' for the FORM F and the ROWS W."""
    return tuple([applied(rows, applied(form, row)) for row in rows])


def table_times(factor, table):
    return tuple([row_times(factor, row) for row in table])


def table_plus(first, second):
    return tuple([row_plus(row, other) for row, other in zip(first, second)])


def table_less(first, factor, second):
    """Return FIRST - FACTOR * SECOND."""
    return tuple([row_less(row, factor, other) for row, other in zip(first, second)])


def gap_of(form, solver):
    """Return SOLVER + SOLVER' - FORM, FORM being the table on the rows of an aid."""
    return table_less(table_plus(solver, turned_over(solver)), ONE, form)
