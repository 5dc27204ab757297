import unittest
from fractions import Fraction
from itertools import combinations

import helpers as h
from splitcosts import colours as c
from splitcosts import together

MANIES = (1, 2, 3, 4, 5)
LINK = h.table(((2, -1), (-1, 2)))
CHAIN = h.table([[2 if at == place else -(abs(at - place) == 1) for place in range(4)] for at in range(4)])
RING = h.table([[3 if at == place else -((at - place) % 5 in (1, 4)) for place in range(5)] for at in range(5)])


def thin_form(draw, many):
    """A positive table of which most energy products of places are 0."""
    rows = [[Fraction(0)] * many for _ in range(many)]
    for at, beside in combinations(range(many), 2):
        rows[at][beside] = rows[beside][at] = Fraction(draw.choice((0, 0, 0, 1, -1)))
    for at in range(many):
        rows[at][at] = Fraction(many + 1)
    return rows


def thin_rows(draw, many):
    """Rows of some places alone."""
    places = draw.sample(range(many), min(draw.choice((1, 1, 2)), many))
    units = h.units(many)
    if len(places) == 2 and draw.random() < 0.4:
        return [[x + y for x, y in zip(units[places[0]], units[places[1]])]]
    return [units[at] for at in places]


def cases():
    """Tables of 1 to 5 rows with teams of 1 to 8 aids of which some touch and some do not, exact ones and others."""
    for many in MANIES:
        for aids in (1, 2, 4, 6, 8):
            draw = h.draws(100 * many + aids)
            form = thin_form(draw, many)
            team = []
            for _ in range(aids):
                rows = thin_rows(draw, many)
                solver = h.on(form, rows) if draw.random() < 0.5 else h.drawn_positive(draw, len(rows), 2)
                team.append((h.table(rows), h.table(solver)))
            yield draw, form, h.table(form), tuple(team)


def touch(form, first, second):
    return any(h.dot(row, h.times(form, other)) != 0 for row in first for other in second)


def colourings(many):
    """All colourings of as many aids: each colour is one that was there before, or the next one."""
    if many == 0:
        yield ()
        return
    for ahead in colourings(many - 1):
        for colour in range(len(set(ahead)) + 1):
            yield ahead + (colour,)


def tells_apart(form, team, told):
    pairs = combinations(range(len(team)), 2)
    return not any(told[at] == told[beside] and touch(form, h.grid(team[at][0]), h.grid(team[beside][0])) for at, beside in pairs)


def fewest(form, team):
    """By a search of all colourings."""
    met = [pair for pair in combinations(range(len(team)), 2) if touch(form, *[h.grid(team[at][0]) for at in pair])]
    return min(len(set(told)) for told in colourings(len(team)) if all(told[at] != told[beside] for at, beside in met))


def exact(form, team):
    return tuple(h.exact_aid(form, h.grid(rows)) for rows, _ in team)


def has_ratios_up_to(form, team, number):
    return h.is_from_nought(h.combined(number, h.inverse(form), -1, h.summed(team)))


class Touch(unittest.TestCase):
    def test_do_touch(self):
        told = set()
        for draw, form, table, team in cases():
            for first, second in [(rows, other) for rows, _ in team for other, _ in team]:
                found = c.do_touch(table, first, second)
                self.assertIs(found, touch(form, h.grid(first), h.grid(second)))
                self.assertIs(c.do_touch(second=second, first=first, table=table), found)
                self.assertIs(c.do_touch(table, second, first), found)
                told.add(found)
                # Not the rows count, but their span.
                other = h.product(h.drawn_free(draw, len(first), len(first)), h.grid(first))
                self.assertIs(c.do_touch(table, h.table(other), second), found)
        self.assertEqual(told, {True, False})

    def test_the_same_rows_touch(self):
        for _, _, table, team in cases():
            for rows, _ in team:
                self.assertIs(c.do_touch(table, rows, rows), True)

    def test_by_hand(self):
        first, second, both = (((1, 1), (0, 1)),), (((0, 1), (1, 1)),), (((1, 1), (2, 1)),)
        self.assertIs(c.do_touch(LINK, first, second), True)
        # (1, 2) has no energy product with (1, 0), but one with (0, 1).
        self.assertIs(c.do_touch(LINK, first, both), False)
        self.assertIs(c.do_touch(LINK, both, second), True)
        self.assertIs(c.do_touch(LINK, both, first + second), True)
        self.assertIs(c.do_touch((((3, 1),),), (((-1, 7),),), (((5, 1),),)), True)


class Colours(unittest.TestCase):
    def test_the_least_number(self):
        told = set()
        for _, form, table, team in cases():
            found = c.colours_of(table, team)
            self.assertIs(type(found), int)
            self.assertEqual(found, fewest(form, team))
            self.assertEqual(c.colours_of(team=team, table=table), found)
            told.add(found)
        self.assertLessEqual({1, 2, 3, 4}, told)

    def test_the_colouring(self):
        for _, form, table, team in cases():
            found = c.colouring(table, team)
            self.assertEqual((type(found), {type(colour) for colour in found}), (tuple, {int}))
            self.assertEqual(len(found), len(team))
            self.assertTrue(tells_apart(form, team, found))
            self.assertEqual(sorted(set(found)), list(range(c.colours_of(table, team))))
            self.assertEqual(c.colouring(team=team, table=table), found)
            self.assertEqual(c.colouring(table, team), found)

    def test_as_they_come_they_may_take_more(self):
        units = h.table(h.units(4))
        team = together.exact_team(CHAIN, tuple((units[at],) for at in (0, 3, 1, 2)))
        self.assertEqual(c.colours_of(CHAIN, team), 2)
        self.assertIn(c.colouring(CHAIN, team), ((0, 1, 1, 0), (1, 0, 0, 1)))

    def test_three_colours_where_four_come_first(self):
        """An aid of all rows, which touches all others, and three pairs: those of a pair, the first ones and the second
        ones do not touch."""
        table = h.table(h.units(5))
        seconds = h.table(((0, 1, 1, 1, 0), (1, 0, 1, -1, 1), (1, 1, 0, -1, -2)))
        pairs = [(row,) for both in zip(table, seconds) for row in both]
        for spans in ([table] + pairs, pairs + [table]):
            team = together.exact_team(table, tuple(spans))
            self.assertEqual(c.colours_of(table, team), 3)
            self.assertEqual(sorted(set(c.colouring(table, team))), [0, 1, 2])
            self.assertTrue(tells_apart(h.units(5), team, c.colouring(table, team)))

    def test_a_ring_of_five(self):
        units = h.table(h.units(5))
        team = together.exact_team(RING, tuple((row,) for row in units))
        self.assertEqual(c.colours_of(RING, team), 3)
        self.assertEqual(c.colours_of(RING, team[:4]), 2)
        self.assertEqual(c.colours_of(RING, team[:4] + team[:4]), 4)

    def test_no_aids_touch(self):
        for many in MANIES:
            table = h.table(h.units(many))
            team = together.exact_team(table, tuple((row,) for row in table))
            self.assertEqual(c.colours_of(table, team), 1)
            self.assertEqual(c.colouring(table, team), (0,) * many)

    def test_all_aids_touch(self):
        """The same aid, and aids of all rows: each touches itself at two places."""
        for many in MANIES:
            table = h.table(h.units(many))
            for rows in (table[:1], table):
                team = together.exact_team(table, (rows,) * 8)
                for count in range(1, 9):
                    self.assertEqual(c.colours_of(table, team[:count]), count)
                    self.assertEqual(sorted(c.colouring(table, team[:count])), list(range(count)))

    def test_the_same_aid_twice(self):
        table = h.table(h.units(2))
        first, second = [((row,), (((1, 1),),)) for row in table]
        self.assertEqual(c.colours_of(table, (first, second, first)), 2)
        self.assertIn(c.colouring(table, (first, second, first)), ((0, 0, 1), (0, 1, 1), (1, 0, 0), (1, 1, 0)))
        self.assertEqual(c.colours_of(table, (first, second) * 4), 4)

    def test_aids_with_other_solvers_touch_alike(self):
        for _, form, table, team in cases():
            self.assertEqual(c.colouring(table, exact(form, team)), c.colouring(table, team))


class Ratios(unittest.TestCase):
    def test_no_ratio_of_an_exact_team_is_above_its_colours(self):
        just = 0
        for _, form, table, team in cases():
            some = exact(form, team)
            most = c.colours_of(table, some)
            self.assertTrue(has_ratios_up_to(form, some, most))
            self.assertIs(together.has_ratios_up_to(table, some, (most, 1)), True)
            just += together.greatest_ratio_near(table, some, 1) == (most, True)
        self.assertGreater(just, 3)

    def test_nor_above_them_times_each_aids_own_greatest(self):
        for _, form, table, team in cases():
            own = max(together.greatest_ratio_near(table, (aid,), 100)[0] + 1 for aid in team)
            most = Fraction(own, 100) * c.colours_of(table, team)
            self.assertTrue(has_ratios_up_to(form, team, most))
            self.assertIs(together.has_ratios_up_to(table, team, h.pair(most)), True)

    def test_aids_of_one_colour_are_one_exact_aid(self):
        for _, form, table, team in cases():
            some = exact(form, team)
            told = c.colouring(table, some)
            for colour in set(told):
                aids = [aid for aid, own in zip(some, told) if own == colour]
                rows = [row for aid in aids for row in h.grid(aid[0])]
                self.assertEqual(h.summed(aids), h.summed((h.exact_aid(form, rows),)))


if __name__ == "__main__":
    unittest.main()
