"""Methods: aids that are taken in order, again and again."""

from splitcosts.checks import check_rounds, check_row, check_table_and_method
from splitcosts.errors import TooMany
from splitcosts.kinds import MOST_AIDS
from splitcosts.rows import applied, multiplied
from splitcosts.spans import are_all, noughts_basis
from splitcosts.sweeps import errors_by, joined_solver, mean_of, rows_of, turned_method


def error_table(table, method):
    """Return the table that makes of each error what the method makes of it."""
    check_table_and_method(table, method)
    return errors_by(table, method)


def run(table, method, row, rounds):
    """Return what is left of the error ROW behind so many ROUNDS of the whole method."""
    check_table_and_method(table, method)
    check_row(row, len(table))
    check_rounds(rounds)
    errors = errors_by(table, method)
    for _ in range(rounds):
        row = applied(errors, row)
    return row


def turned(table, method):
    """Return the method turned about: the aids in the opposite order, their solvers turned over."""
    check_table_and_method(table, method)
    return turned_method(method)


def there_and_back(table, method):
    """Return the method and, behind it, the turned one."""
    check_table_and_method(table, method)
    if 2 * len(method) > MOST_AIDS:
        raise TooMany(2 * len(method))
    return method + turned_method(method)


def joined_table(table, method):
    """Return all rows of the method and the joined table, with which it is one aid."""
    check_table_and_method(table, method)
    return (rows_of(method), joined_solver(table, method))


def mean_table(table, method):
    """Return the mean table B: errors e lose the worth of B at A e."""
    check_table_and_method(table, method)
    return mean_of(table, method)


def is_whole(table, method):
    """Tell whether the spans of the aids together are all rows."""
    check_table_and_method(table, method)
    return are_all(rows_of(method))


def staying_error(table, method):
    """Return an error other than noughts that stays as it is; None if there is none."""
    check_table_and_method(table, method)
    found = noughts_basis(multiplied(rows_of(method), table), len(table))
    return found[0] if found else None
