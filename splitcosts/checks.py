"""What arguments have to be, and the errors for those that are not."""

from splitcosts.errors import InvalidAid, InvalidAmount, InvalidForm, InvalidLadder, InvalidLot, InvalidLots
from splitcosts.errors import InvalidMethod, InvalidNumber, InvalidParts, InvalidRow, InvalidRows, InvalidShare
from splitcosts.errors import InvalidSmoother, InvalidSolver, InvalidSpans, InvalidSplit, InvalidTable, InvalidTeam
from splitcosts.errors import InvalidWeight, NotWhole
from splitcosts.kinds import climbing_count, fitting_count, free_count, is_above_nought, is_aid_for, is_amount, is_form
from splitcosts.kinds import is_fraction, is_inner, is_ladder_long, is_lot, is_number_from, is_positive_table, is_share
from splitcosts.kinds import is_span, is_table_of, is_team_aid, is_tuple, right_count, smooths
from splitcosts.spans import are_all

MOST_MANY = 1000000
MOST_ROUNDS = 40


def check_form(value):
    if not is_form(value):
        raise InvalidForm(value)


def check_table(value):
    if not is_positive_table(value):
        raise InvalidTable(value)


def check_row(value, many):
    if not is_tuple(value) or len(value) != many:
        raise InvalidRow(None)
    for at, number in enumerate(value):
        if not is_fraction(number):
            raise InvalidRow(at)


def check_team(value, many):
    """Raise InvalidTeam if VALUE is no team for tables of MANY rows."""
    if not is_tuple(value) or len(value) == 0:
        raise InvalidTeam(None)
    at = right_count(value, lambda aid: is_team_aid(aid, many))
    if at < len(value):
        raise InvalidTeam(at)


def check_table_and_team(table, team):
    check_table(table)
    check_team(team, len(table))


def check_spans(value, many):
    if not is_tuple(value) or len(value) == 0:
        raise InvalidSpans(None)
    at = right_count(value, lambda rows: is_span(rows, many))
    if at < len(value):
        raise InvalidSpans(at)


def check_parts(value, team):
    if not is_tuple(value) or len(value) != len(team):
        raise InvalidParts(None)
    at = fitting_count(value, team)
    if at < len(value):
        raise InvalidParts(at)


def check_amount(value):
    if not is_amount(value):
        raise InvalidAmount(value)


def check_damping(value):
    if not is_above_nought(value):
        raise InvalidAmount(value)


def check_share(value):
    if not is_share(value):
        raise InvalidShare(value)


def check_number_from(value, least, most):
    """Raise InvalidNumber if VALUE is no whole number from LEAST to MOST."""
    if not is_number_from(value, least, most):
        raise InvalidNumber(value)


def check_many(value):
    check_number_from(value, 1, MOST_MANY)


def check_rounds(value):
    check_number_from(value, 0, MOST_ROUNDS)


def check_smoother(value, table):
    if not smooths(table, value):
        raise InvalidSmoother(value)


def check_table_and_smoother(table, smoother):
    check_table(table)
    check_smoother(smoother, table)


def check_coarse(value, many):
    """Raise InvalidRows if VALUE is no tuple of none or more free rows of MANY fractions."""
    if not is_tuple(value):
        raise InvalidRows(None)
    at = free_count(value, many)
    if at < len(value):
        raise InvalidRows(at)


def check_rows(value, many):
    """Raise InvalidRows if VALUE is no tuple of one or more free rows of MANY fractions."""
    if not is_tuple(value) or len(value) == 0:
        raise InvalidRows(None)
    check_coarse(value, many)


def check_table_and_rows(table, rows):
    check_table(table)
    check_rows(rows, len(table))


def check_table_and_spans(table, first, second):
    check_table_and_rows(table, first)
    check_rows(second, len(table))


def check_solver(value, many):
    if not is_table_of(value, many):
        raise InvalidSolver(value)


def check_table_and_aid(table, aid):
    check_table(table)
    if not is_aid_for(table, aid):
        raise InvalidAid(aid)


def check_lots(value, many):
    if not is_tuple(value) or len(value) == 0:
        raise InvalidLots(None)
    at = right_count(value, lambda lot: is_lot(lot, many))
    if at < len(value):
        raise InvalidLots(at)


def check_table_and_inner(table, inner):
    check_table(table)
    if not is_inner(inner, len(table)):
        raise InvalidLot(inner)


def check_table_and_method(table, method):
    check_table(table)
    if not is_tuple(method) or len(method) == 0:
        raise InvalidMethod(None)
    at = right_count(method, lambda aid: is_aid_for(table, aid))
    if at < len(method):
        raise InvalidMethod(at)


def check_split(value, method):
    if not is_tuple(value) or len(value) != len(method):
        raise InvalidSplit(None)
    at = fitting_count(value, method)
    if at < len(value):
        raise InvalidSplit(at)


def check_weight(value):
    if not is_above_nought(value):
        raise InvalidWeight(value)


def check_table_and_ladder(table, ladder):
    check_table(table)
    if not is_ladder_long(ladder):
        raise InvalidLadder(None)
    at = climbing_count(table, ladder)
    if at < len(ladder):
        raise InvalidLadder(at)


def check_whole(rows):
    """Raise NotWhole if the ROWS, one or more, together do not have all rows as sums of their multiples."""
    if not are_all(rows):
        raise NotWhole()
