"""Colours: which aids of a team touch, and how few colours tell those apart that do."""

from splitcosts.checks import check_table_and_spans, check_table_and_team
from splitcosts.rows import multiplied, turned_over
from splitcosts.spans import are_noughts


def touches(table, first, second):
    """Tell whether some row of FIRST has an energy product other than 0 with one of SECOND."""
    return not are_noughts(multiplied(multiplied(first, table), turned_over(second)))


def touched_ahead(table, team):
    """Return for each place in TEAM those ahead of it with aids that touch the one there."""
    spans = [rows for rows, _ in team]
    return [[at for at in range(place) if touches(table, spans[at], spans[place])] for place in range(len(team))]


def coloured(ahead, count, found):
    """Return a colouring with the colours 0, .., COUNT - 1 that begins as FOUND does; None if there is none.

    AHEAD tells for each place which ones ahead of it must have other colours.
    """
    if len(found) == len(ahead):
        return found
    barred = [found[at] for at in ahead[len(found)]]
    for colour in range(count):
        if colour not in barred:
            longer = coloured(ahead, count, found + (colour,))
            if longer is not None:
                return longer
    return None


def do_touch(table, first, second):
    """Tell whether aids with the rows FIRST and SECOND touch."""
    check_table_and_spans(table, first, second)
    return touches(table, first, second)


def colours_of(table, team):
    """Return the least number of unlike colours of all colourings."""
    return max(colouring(table, team)) + 1


def colouring(table, team):
    """Return a colour for each aid of TEAM, of as few as can be: 0, 1, .. ."""
    check_table_and_team(table, team)
    ahead = touched_ahead(table, team)
    found, count = None, 0
    while found is None:
        count += 1
        found = coloured(ahead, count, ())
    return found
