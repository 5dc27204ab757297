"""Which rows are free, what is 0 with all of some rows, and inverses: by taking rows off one another."""

from splitcosts.fracs import NIL, ONE, minus, over
from splitcosts.rows import row_less, row_times, unit_row, unit_rows


def first_place(row):
    """Return the first place of a ROW other than noughts at which it is not 0."""
    return [number[0] != 0 for number in row].index(True)


def is_noughts(row):
    return all([number[0] == 0 for number in row])


def are_noughts(rows):
    return all([is_noughts(row) for row in rows])


def lead_one(row):
    return row_times(over(ONE, row[first_place(row)]), row)


def cleared(row, lead):
    """Return ROW less the multiple of LEAD that makes it 0 where LEAD has its leading 1."""
    return row_less(row, row[first_place(lead)], lead)


def with_row(steps, row):
    """Return STEPS with ROW beside them: rows that lead with 1, at places where all others are 0.

    They have the span of the rows they came from; with a row of that span they stay as they are.
    """
    for lead in steps:
        row = cleared(row, lead)
    if is_noughts(row):
        return steps
    lead = lead_one(row)
    return tuple([cleared(step, lead) for step in steps]) + (lead,)


def steps_of(rows):
    steps = ()
    for row in rows:
        steps = with_row(steps, row)
    return steps


def free_places(rows):
    """Return the places of those ROWS that are no sum of multiples of the ones ahead of them."""
    steps, found = (), []
    for at, row in enumerate(rows):
        longer = with_row(steps, row)
        if len(longer) > len(steps):
            found.append(at)
        steps = longer
    return found


def are_all(rows):
    """Tell whether each row is a sum of multiples of ROWS; there is one of these."""
    return len(steps_of(rows)) == len(rows[0])


def are_in_span(others, rows):
    """Tell whether each of OTHERS, rows as well, is a sum of multiples of ROWS."""
    return len(steps_of(rows + others)) == len(steps_of(rows))


def loose_places(rows, many):
    """Return the places at which none of the steps of ROWS, rows of MANY numbers, leads."""
    led = [first_place(step) for step in steps_of(rows)]
    return [place for place in range(many) if place not in led]


def noughts_basis(rows, many):
    """Return free rows of MANY numbers whose span are all that are 0 with each of the ROWS.

    There is one for each loose place, in order: with 1 at it and 0 at the other loose ones.
    """
    steps = steps_of(rows)
    found = []
    for place in loose_places(rows, many):
        numbers = list(unit_row(many, place))
        for step in steps:
            numbers[first_place(step)] = minus(NIL, step[place])
        found.append(tuple(numbers))
    return tuple(found)


def inverse(table):
    """Return the inverse of TABLE, the rows of which are free."""
    many = len(table)
    steps = steps_of([row + unit for row, unit in zip(table, unit_rows(many))])
    ordered = sorted([(first_place(step), step) for step in steps])
    return tuple([step[many:] for _, step in ordered])
