"""Teams: aids that are taken all at once, so that all of them see the same error."""

from splitcosts.checks import check_amount, check_damping, check_many, check_parts, check_row, check_share
from splitcosts.checks import check_spans, check_table, check_table_and_team
from splitcosts.errors import NotWhole
from splitcosts.forms import is_positive, low_rows, signs_of, worth_at
from splitcosts.fracs import ONE, minus, over, plus, total
from splitcosts.kinds import is_team_of
from splitcosts.nearness import near_root
from splitcosts.rows import applied, dot, form_on, multiplied, table_less, table_plus, table_times, turned_over
from splitcosts.rows import unit_rows
from splitcosts.spans import inverse, noughts_basis

TWO = (2, 1)


def sum_of(team):
    """Return the sum of all W' M^-1 W, W being an aid's rows and M its solver."""
    parts = [form_on(inverse(solver), turned_over(rows)) for rows, solver in team]
    summed = parts[0]
    for part in parts[1:]:
        summed = table_plus(summed, part)
    return summed


def ratio_form(table, team, number):
    """Return S - NUMBER * A^-1: its worth at A e is below 0 where the ratio of e is below NUMBER, above 0 likewise."""
    return table_less(sum_of(team), number, inverse(table))


def ratio_signs(table, team, number):
    return signs_of(ratio_form(table, team, number))


def damped_by(table, team, damping):
    """Return the table 1 - w S A by which errors go with the DAMPING w."""
    return table_less(unit_rows(len(table)), damping, multiplied(sum_of(team), table))


def does_die(table, team, damping):
    """Tell whether TEAM is whole and all its ratios are below 2 over the DAMPING."""
    all_below = ratio_signs(table, team, over(TWO, damping))[2] == len(table)
    return all_below and is_positive(sum_of(team))


def is_team(table, value):
    """Tell whether VALUE, whatever it is, is a team for TABLE."""
    check_table(table)
    return is_team_of(value, len(table))


def exact_team(table, spans):
    """Return the team of the exact aids of the SPANS."""
    check_table(table)
    check_spans(spans, len(table))
    return tuple([(rows, form_on(table, rows)) for rows in spans])


def summed_table(table, team):
    """Return the summed table S of TEAM."""
    check_table_and_team(table, team)
    return sum_of(team)


def is_whole_team(table, team):
    """Tell whether the spans of TEAM together are all rows."""
    check_table_and_team(table, team)
    return is_positive(sum_of(team))


def team_cost(table, team, parts):
    """Return the sum of the worths of the solvers at the PARTS, a row for each aid."""
    check_table_and_team(table, team)
    check_parts(parts, team)
    return total([worth_at(aid[1], part) for aid, part in zip(team, parts)])


def least_team_cost(table, team, row):
    """Return the least cost of all splits of ROW."""
    return dot(team_prices(table, team, row), row)


def team_split(table, team, row):
    """Return the one split of ROW that has the least cost."""
    prices = team_prices(table, team, row)
    return tuple([applied(inverse(solver), applied(rows, prices)) for rows, solver in team])


def team_prices(table, team, row):
    """Return the prices S^-1 v for the row v."""
    check_table_and_team(table, team)
    check_row(row, len(table))
    summed = sum_of(team)
    if not is_positive(summed):
        raise NotWhole()
    return applied(inverse(summed), row)


def has_ratios_from(table, team, number):
    """Tell whether all ratios are at least NUMBER."""
    check_table_and_team(table, team)
    check_amount(number)
    return ratio_signs(table, team, number)[2] == 0


def has_ratios_up_to(table, team, number):
    """Tell whether all ratios are at most NUMBER."""
    check_table_and_team(table, team)
    check_amount(number)
    return ratio_signs(table, team, number)[0] == 0


def least_ratio_near(table, team, many):
    """Return the least ratio, near for MANY."""
    check_table_and_team(table, team)
    check_many(many)
    return near_root(multiplied(sum_of(team), table), 0, many)


def greatest_ratio_near(table, team, many):
    """Return the greatest ratio, near for MANY."""
    check_table_and_team(table, team)
    check_many(many)
    return near_root(multiplied(sum_of(team), table), len(table) - 1, many)


def damped_table(table, team, damping):
    """Return the table 1 - w S A by which errors go with the DAMPING w."""
    check_table_and_team(table, team)
    check_damping(damping)
    return damped_by(table, team, damping)


def dies_with(table, team, damping):
    """Tell whether with the DAMPING the energy of all errors other than noughts falls at each step."""
    check_table_and_team(table, team)
    check_damping(damping)
    return does_die(table, team, damping)


def unfalling(table, team, damping):
    """Return an error other than noughts whose energy is not less behind a step; None if there is none."""
    check_table_and_team(table, team)
    check_damping(damping)
    summed, energies = sum_of(team), inverse(table)
    found = noughts_basis(summed, len(table))
    if len(found) == 0:
        # With y = A e and a ratio of at least 2 / w the energy does not fall: the worth of A at S y times the
        # energy is at least the square of the worth of S at y (Cauchy, Schwarz), so w times it is at least twice that.
        found = low_rows(table_less(table_times(TWO, energies), damping, summed))
    if len(found) == 0:
        return None
    return applied(energies, found[0])


def falls_to(table, team, damping, root):
    """Tell whether the energy of all errors falls to at most ROOT * ROOT times what it was."""
    check_table_and_team(table, team)
    check_damping(damping)
    check_share(root)
    least = over(minus(ONE, root), damping)
    most = over(plus(ONE, root), damping)
    return ratio_signs(table, team, least)[2] == 0 and ratio_signs(table, team, most)[0] == 0
