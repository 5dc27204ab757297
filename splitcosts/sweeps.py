"""Aids that are taken one behind another: what they take off errors, and what splits of rows cost by them."""

from splitcosts.forms import worth_at
from splitcosts.fracs import NIL, ONE, minus, times, total
from splitcosts.rows import applied, dot, form_on, gap_of, mixed, multiplied, row_less, row_plus, table_less
from splitcosts.rows import spread, table_plus, turned_over, unit_row, unit_rows
from splitcosts.spans import free_places, inverse


def exact_aid_of(table, rows):
    return (rows, form_on(table, rows))


def lot_aid(table, lot):
    """Return the exact aid of the unit rows of the indexes LOT."""
    return exact_aid_of(table, tuple([unit_row(len(table), at) for at in lot]))


def smoothing_aid(solver):
    return (unit_rows(len(solver)), solver)


def gap_at(table, aid):
    rows, solver = aid
    return gap_of(form_on(table, rows), solver)


def rows_of(method):
    """Return all rows R of the method, one aid's behind another's."""
    return tuple([row for rows, _ in method for row in rows])


def turned_method(method):
    return tuple([(rows, turned_over(solver)) for rows, solver in method[::-1]])


def answers_of(table, method):
    """Return a table for each aid: it makes of A e the numbers by which the aid takes its rows off the error e.

    Here e is the error ahead of the whole method. One behind another these tables are L^-1 R.
    """
    seen, found = unit_rows(len(table)), []
    for rows, solver in method:
        answers = multiplied(inverse(solver), multiplied(rows, seen))
        seen = table_less(seen, ONE, multiplied(table, multiplied(turned_over(rows), answers)))
        found.append(answers)
    return found


def errors_by(table, method):
    """Return the error table E = 1 - R' L^-1 R A."""
    answers = [row for part in answers_of(table, method) for row in part]
    taken = multiplied(turned_over(rows_of(method)), answers)
    return table_less(unit_rows(len(table)), ONE, multiplied(taken, table))


def joined_solver(table, method):
    """Return the joined table L: the solvers along, and what later aids see of the rows of earlier ones."""
    rows, lines, ahead = rows_of(method), [], 0
    for aid in method:
        behind = len(rows) - ahead - len(aid[0])
        for row, line in zip(aid[0], aid[1]):
            lines.append(applied(rows[:ahead], applied(table, row)) + line + (NIL,) * behind)
        ahead += len(aid[0])
    return tuple(lines)


def mean_of(table, method):
    """Return the mean table B = R' L'^-1 G L^-1 R."""
    mean = tuple([(NIL,) * len(table) for _ in table])
    for aid, answers in zip(method, answers_of(table, method)):
        mean = table_plus(mean, form_on(gap_at(table, aid), turned_over(answers)))
    return mean


def added_up(method, split):
    """Return the row R' u that is split."""
    return mixed([number for part in split for number in part], rows_of(method))


def cut_up(method, numbers):
    """Return the NUMBERS, one for each row of the method, as a row for each aid."""
    found = []
    for rows, _ in method:
        found.append(numbers[:len(rows)])
        numbers = numbers[len(rows):]
    return tuple(found)


def unit_splits(method):
    """Return a split for each unit row, among the first free rows of the method, which is whole."""
    rows = rows_of(method)
    places = free_places(rows)
    shares = inverse([rows[at] for at in places])
    return tuple([cut_up(method, spread(part, places, len(rows))) for part in shares])


def cost_of(table, method, split):
    """Return the sum of the worths of the inverse gaps at c = L' u."""
    later, costs = (NIL,) * len(table), []
    for aid, part in reversed(list(zip(method, split))):
        rows, solver = aid
        charge = row_plus(applied(turned_over(solver), part), applied(rows, applied(table, later)))
        costs.append(worth_at(inverse(gap_at(table, aid)), charge))
        later = row_plus(later, mixed(part, rows))
    return total(costs)


def split_by(table, method, price):
    """Return the split u = L'^-1 G L^-1 R y for the price y: of all splits of B y it costs least."""
    later, found = (NIL,) * len(table), []
    for aid, answers in reversed(list(zip(method, answers_of(table, method)))):
        rows, solver = aid
        charge = applied(gap_at(table, aid), applied(answers, price))
        own = row_less(charge, ONE, applied(rows, applied(table, later)))
        part = applied(inverse(turned_over(solver)), own)
        later = row_plus(later, mixed(part, rows))
        found.append(part)
    return tuple(found[::-1])


def bound_by(table, method, price, row):
    """Return 2 y . v less the worth of B at the price y: what splits of the row v cost at least."""
    return minus(times((2, 1), dot(price, row)), worth_at(mean_of(table, method), price))
