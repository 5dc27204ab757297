import unittest
from fractions import Fraction

import helpers as h
from splitcosts import together as t

LINK = ((2, -1), (-1, 2))
MANIES = (1, 2, 3, 4, 5)


def cases():
    """Tables of 1 to 5 rows with drawn teams: of one aid, of some and of eight, whole and not."""
    for many in MANIES:
        for seed in range(4):
            draw = h.draws(100 * many + seed)
            form = h.drawn_positive(draw, many)
            team = h.drawn_team(draw, many, (1, 2, 3, 8)[seed])
            yield draw, form, h.table(form), team


def whole_cases():
    for draw, form, table, team in cases():
        if h.rank([row for rows, _ in team for row in h.grid(rows)]) == len(form):
            yield draw, form, table, team


def energy(form, row):
    return h.worth(form, row)


def ratio(form, summed, error):
    return h.worth(summed, h.times(form, error)) / energy(form, error)


def step(form, team, damping, error):
    """What the aids, all at once, make of an error: aid by aid."""
    seen = h.times(form, error)
    found = list(error)
    for rows, solver in team:
        rows = h.grid(rows)
        numbers = h.times(h.inverse(h.grid(solver)), h.times(rows, seen))
        for factor, row in zip(numbers, rows):
            found = [x - damping * factor * y for x, y in zip(found, row)]
    return found


def parts_sum(team, parts):
    found = [Fraction(0)] * len(team[0][0][0])
    for (rows, _), part in zip(team, parts):
        for factor, row in zip(h.numbers(part), h.grid(rows)):
            found = [x + factor * y for x, y in zip(found, row)]
    return found


def cost(team, parts):
    return sum(h.worth(h.grid(solver), h.numbers(part)) for (_, solver), part in zip(team, parts))


class Teams(unittest.TestCase):
    def test_exact_team(self):
        for draw, form, table, _ in cases():
            spans = tuple(h.table(h.drawn_free(draw, draw.randint(1, len(form)), len(form))) for _ in range(3))
            team = t.exact_team(table, spans)
            self.assertEqual(team, tuple((rows, h.table(h.on(form, h.grid(rows)))) for rows in spans))
            self.assertIs(t.is_team(table, team), True)
            self.assertEqual(t.exact_team(spans=spans, table=table), team)

    def test_one_and_eight_aids(self):
        rows = (((1, 1), (0, 1)),)
        table = h.table(LINK)
        for many in (1, 8):
            team = t.exact_team(table, (rows,) * many)
            self.assertEqual(team, ((rows, (((2, 1),),)),) * many)
            self.assertEqual(t.summed_table(table, team), (((many, 2) if many == 1 else (4, 1), (0, 1)), ((0, 1), (0, 1))))

    def test_summed_table(self):
        for _, form, table, team in cases():
            found = t.summed_table(table, team)
            self.assertEqual(found, h.table(h.summed(team)))
            self.assertTrue(h.is_from_nought(h.grid(found)))
            self.assertEqual(t.summed_table(team=team, table=table), found)

    def test_summed_table_of_a_table_of_one_row(self):
        self.assertEqual(t.summed_table((((3, 1),),), (((((2, 1),),), (((5, 1),),)),)), (((4, 5),),))

    def test_is_whole_team(self):
        told = set()
        for _, form, table, team in cases():
            for some in (team, team[:1], team[-1:]):
                whole = h.rank([row for rows, _ in some for row in h.grid(rows)]) == len(form)
                self.assertIs(t.is_whole_team(table, some), whole)
                self.assertEqual(h.is_positive(h.summed(some)), whole)
                told.add((whole, len(form)))
            self.assertEqual(t.is_whole_team(team=team, table=table), t.is_whole_team(table, team))
        self.assertEqual(told, {(True, k) for k in MANIES} | {(False, k) for k in MANIES[1:]})

    def test_team_cost(self):
        for draw, form, table, team in cases():
            parts = tuple(h.pairs(h.drawn_row(draw, len(rows))) for rows, _ in team)
            self.assertEqual(t.team_cost(table, team, parts), h.pair(cost(team, parts)))
            self.assertEqual(t.team_cost(parts=parts, team=team, table=table), t.team_cost(table, team, parts))
            nothing = tuple(((0, 1),) * len(rows) for rows, _ in team)
            self.assertEqual(t.team_cost(table, team, nothing), (0, 1))


class LeastCosts(unittest.TestCase):
    def test_the_split_has_the_least_cost(self):
        for draw, form, table, team in whole_cases():
            row = h.drawn_row(draw, len(form))
            least = h.number(t.least_team_cost(table, team, h.pairs(row)))
            split = t.team_split(table, team, h.pairs(row))
            self.assertEqual([len(part) for part in split], [len(rows) for rows, _ in team])
            self.assertEqual(parts_sum(team, split), row)
            self.assertEqual(cost(team, split), least)
            self.assertEqual(h.worth(h.inverse(h.summed(team)), row), least)
            self.assertGreater(least, 0)

    def test_no_other_split_costs_as_little(self):
        for draw, form, table, team in whole_cases():
            joined = [row for rows, _ in team for row in h.grid(rows)]
            row = h.drawn_row(draw, len(form))
            least = h.number(t.least_team_cost(table, team, h.pairs(row)))
            split = [h.numbers(part) for part in t.team_split(table, team, h.pairs(row))]
            flat = [x for part in split for x in part]
            for change in h.nulls(h.turned(joined), len(flat)):
                for factor in (1, -1, Fraction(1, 1000), 7):
                    other = [x + factor * y for x, y in zip(flat, change)]
                    parts = cut(other, [len(part) for part in split])
                    self.assertEqual(parts_sum(team, parts), row)
                    self.assertGreater(h.number(t.team_cost(table, team, parts)), least)

    def test_prices(self):
        for draw, form, table, team in whole_cases():
            row = h.drawn_row(draw, len(form))
            prices = h.numbers(t.team_prices(table, team, h.pairs(row)))
            least = h.number(t.least_team_cost(table, team, h.pairs(row)))
            summed = h.summed(team)
            self.assertEqual(h.times(summed, prices), row)
            self.assertEqual(h.dot(prices, row), least)
            for _ in range(3):
                price = h.drawn_row(draw, len(form))
                self.assertLessEqual(2 * h.dot(price, row) - h.worth(summed, price), least)

    def test_by_name_and_again(self):
        for draw, form, table, team in whole_cases():
            row = h.pairs(h.drawn_row(draw, len(form)))
            for told in (t.least_team_cost, t.team_split, t.team_prices):
                self.assertEqual(told(row=row, team=team, table=table), told(table, team, row))
                self.assertEqual(told(table, team, row), told(table, team, row))

    def test_noughts_cost_nothing(self):
        for _, form, table, team in whole_cases():
            row = ((0, 1),) * len(form)
            self.assertEqual(t.least_team_cost(table, team, row), (0, 1))
            self.assertEqual(t.team_prices(table, team, row), row)
            self.assertEqual(t.team_split(table, team, row), tuple(((0, 1),) * len(rows) for rows, _ in team))

    def test_an_aid_more_never_costs_more(self):
        for draw, form, table, team in whole_cases():
            row = h.pairs(h.drawn_row(draw, len(form)))
            more = (team + h.drawn_team(draw, len(form), 1))[-8:] if len(team) < 8 else team
            less = h.number(t.least_team_cost(table, more, row))
            self.assertLessEqual(less, h.number(t.least_team_cost(table, team, row)))


def cut(flat, sizes):
    found = []
    for size in sizes:
        found.append(h.pairs(flat[:size]))
        flat = flat[size:]
    return tuple(found)


class Ratios(unittest.TestCase):
    def test_from_and_up_to(self):
        told = set()
        for draw, form, table, team in cases():
            summed, back = h.summed(team), h.inverse(form)
            for _ in range(8):
                error = h.drawn_row(draw, len(form))
                x = ratio(form, summed, h.drawn_row(draw, len(form))) * draw.choice((1, 2, Fraction(1, 3)))
                least = t.has_ratios_from(table, team, h.pair(x))
                most = t.has_ratios_up_to(table, team, h.pair(x))
                self.assertIs(least, h.is_from_nought(h.combined(1, summed, -x, back)))
                self.assertIs(most, h.is_from_nought(h.combined(x, back, -1, summed)))
                self.assertLessEqual(least, ratio(form, summed, error) >= x)
                self.assertLessEqual(most, ratio(form, summed, error) <= x)
                self.assertIs(t.has_ratios_from(number=h.pair(x), team=team, table=table), least)
                self.assertIs(t.has_ratios_up_to(number=h.pair(x), team=team, table=table), most)
                told.add((least, most))
        self.assertEqual(told, {(False, False), (True, False), (False, True), (True, True)})

    def test_number_nought(self):
        for _, form, table, team in cases():
            self.assertIs(t.has_ratios_from(table, team, (0, 1)), True)
            self.assertIs(t.has_ratios_up_to(table, team, (0, 1)), False)

    def test_just_reached(self):
        table = h.table(LINK)
        team = t.exact_team(table, ((((1, 1), (0, 1)),), (((0, 1), (1, 1)),)))
        self.assertIs(t.has_ratios_from(table, team, (1, 2)), True)
        self.assertIs(t.has_ratios_from(table, team, (501, 1000)), False)
        self.assertIs(t.has_ratios_up_to(table, team, (3, 2)), True)
        self.assertIs(t.has_ratios_up_to(table, team, (1499, 1000)), False)

    def test_from_is_what_splits_cost(self):
        for draw, form, table, team in whole_cases():
            k, _ = t.least_ratio_near(table, team, 100)
            if k == 0:
                continue
            for _ in range(5):
                row = h.drawn_row(draw, len(form))
                least = h.number(t.least_team_cost(table, team, h.pairs(row)))
                self.assertLessEqual(least, energy(form, row) * Fraction(100, k))

    def near(self, told, holds, is_met):
        for draw, form, table, team in cases():
            summed, back = h.summed(team), h.inverse(form)
            for many in (1, 7, 1000, 10 ** 6):
                found = told(table, team, many)
                self.assertEqual([type(part) for part in found], [int, bool])
                k, is_just = found
                self.assertGreaterEqual(k, 0)
                self.assertTrue(holds(summed, back, Fraction(k, many)))
                self.assertFalse(holds(summed, back, Fraction(k + 1, many)))
                self.assertIs(is_just, is_met(summed, back, Fraction(k, many)))
                self.assertEqual(told(many=many, team=team, table=table), found)

    def test_least_ratio_near(self):
        def holds(summed, back, x):
            return h.is_from_nought(h.combined(1, summed, -x, back))

        def is_met(summed, back, x):
            return h.determinant(h.combined(1, summed, -x, back)) == 0

        self.near(t.least_ratio_near, holds, is_met)

    def test_greatest_ratio_near(self):
        def holds(summed, back, x):
            return not h.is_positive(h.combined(x, back, -1, summed))

        def is_met(summed, back, x):
            return h.is_from_nought(h.combined(x, back, -1, summed))

        self.near(t.greatest_ratio_near, holds, is_met)

    def test_just_and_not_just(self):
        table = h.table(LINK)
        team = t.exact_team(table, ((((1, 1), (0, 1)),), (((0, 1), (1, 1)),)))
        told = [(t.least_ratio_near(table, team, many), t.greatest_ratio_near(table, team, many)) for many in (1, 2, 3)]
        self.assertEqual(told, [((0, False), (1, False)), ((1, True), (3, True)), ((1, False), (4, False))])
        self.assertEqual(t.least_ratio_near(table, team, 10 ** 6), (500000, True))
        self.assertEqual(t.least_ratio_near(table, team, 999999), (499999, False))
        self.assertEqual(t.greatest_ratio_near(table, team, 10 ** 6), (1500000, True))
        self.assertEqual(t.greatest_ratio_near(table, team, 999999), (1499998, False))

    def test_a_ratio_that_is_no_fraction(self):
        table = h.table(((1, 1), (1, 2)))
        team = (((((1, 1), (0, 1)), ((0, 1), (1, 1))), h.table(((1, 0), (0, 1)))),)
        self.assertEqual(t.least_ratio_near(table, team, 10 ** 6), (381966, False))
        self.assertEqual(t.greatest_ratio_near(table, team, 10 ** 6), (2618033, False))
        self.assertEqual(t.least_ratio_near(table, team, 1), (0, False))

    def test_not_whole_has_the_least_ratio_nought(self):
        for _, form, table, team in cases():
            if not t.is_whole_team(table, team):
                self.assertEqual(t.least_ratio_near(table, team, 1000), (0, True))
            for one in team:
                if len(one[0]) < len(form):
                    self.assertEqual(t.least_ratio_near(table, (one,), 10), (0, True))

    def test_the_exact_aid_of_all_rows(self):
        for draw, form, table, _ in cases():
            team = t.exact_team(table, (h.table(h.drawn_free(draw, len(form), len(form))),))
            for many in (1, 10 ** 6):
                self.assertEqual(t.least_ratio_near(table, team, many), (many, True))
                self.assertEqual(t.greatest_ratio_near(table, team, many), (many, True))
            self.assertEqual(t.greatest_ratio_near(table, team * 8, 10), (80, True))

    def test_great_and_small_ratios(self):
        great = 10 ** 60
        for top, low in ((great, 1), (1, great)):
            team = (((((1, 1),),), (((low, top),),)),)
            self.assertEqual(t.least_ratio_near((((3, 1),),), team, 7), (21 * top // low, low == 1))
            self.assertEqual(t.greatest_ratio_near((((3, 1),),), team, 7), (21 * top // low, low == 1))

    def test_with_an_aid_more_no_ratio_falls(self):
        for _, form, table, team in cases():
            for told in (t.least_ratio_near, t.greatest_ratio_near):
                found = [told(table, team[:k], 1000)[0] for k in range(1, len(team) + 1)]
                self.assertEqual(found, sorted(found))


class Dampings(unittest.TestCase):
    def dampings(self, draw, table, team):
        k, _ = t.greatest_ratio_near(table, team, 12)
        return [Fraction(24, max(k, 1)), Fraction(24, k + 1), Fraction(1, k + 1), abs(h.drawn_fraction(draw)) + 1]

    def test_damped_table(self):
        for draw, form, table, team in cases():
            for damping in self.dampings(draw, table, team):
                found = t.damped_table(table, team, h.pair(damping))
                error = h.drawn_row(draw, len(form))
                self.assertTrue(all(h.is_row(row, len(form)) for row in found))
                self.assertEqual(h.times(h.grid(found), error), step(form, team, damping, error))
                self.assertEqual(t.damped_table(damping=h.pair(damping), team=team, table=table), found)

    def test_dies_with_and_unfalling(self):
        told = set()
        for draw, form, table, team in cases():
            for damping in self.dampings(draw, table, team):
                dies = t.dies_with(table, team, h.pair(damping))
                found = t.unfalling(table, team, h.pair(damping))
                self.assertIs(type(dies), bool)
                self.assertEqual(dies, found is None)
                told.add((t.is_whole_team(table, team), dies))
                if not dies:
                    self.not_fallen(form, team, damping, found)
                for _ in range(5):
                    error = h.drawn_row(draw, len(form))
                    falls = energy(form, step(form, team, damping, error)) < energy(form, error)
                    self.assertLessEqual(dies, falls)
                self.assertEqual(dies, t.dies_with(damping=h.pair(damping), team=team, table=table))
                self.assertEqual(found, t.unfalling(damping=h.pair(damping), team=team, table=table))
        self.assertEqual(told, {(True, True), (True, False), (False, False)})

    def not_fallen(self, form, team, damping, found):
        self.assertTrue(h.is_row(found, len(form)))
        error = h.numbers(found)
        self.assertTrue(any(error))
        self.assertGreaterEqual(energy(form, step(form, team, damping, error)), energy(form, error))

    def test_what_is_not_whole_leaves_an_error_as_it_is(self):
        seen = 0
        for draw, form, table, team in cases():
            if t.is_whole_team(table, team):
                continue
            seen += 1
            for damping in ((1, 10 ** 6), (1, 1), (10 ** 6, 1)):
                self.assertIs(t.dies_with(table, team, damping), False)
                error = h.numbers(t.unfalling(table, team, damping))
                self.assertTrue(any(error))
                self.assertEqual(step(form, team, h.number(damping), error), error)
        self.assertGreater(seen, 3)

    def test_a_ratio_of_just_two(self):
        table = h.table(LINK)
        team = t.exact_team(table, ((((1, 1), (0, 1)),), (((0, 1), (1, 1)),)))
        self.assertIs(t.dies_with(table, team, (4, 3)), False)
        self.assertIs(t.dies_with(table, team, (1333, 1000)), True)
        self.assertIs(t.dies_with(table, team, (667, 500)), False)
        self.assertIsNone(t.unfalling(table, team, (1333, 1000)))
        for damping in ((4, 3), (667, 500), (9, 1)):
            self.not_fallen(LINK, team, h.number(damping), t.unfalling(table, team, damping))

    def test_a_table_of_one_row(self):
        table, team = (((3, 1),),), (((((1, 1),),), (((1, 1),),)),)
        told = [t.dies_with(table, team, damping) for damping in ((1, 3), (2, 3), (665, 999), (1, 1))]
        self.assertEqual(told, [True, False, True, False])
        self.assertEqual(t.damped_table(table, team, (1, 3)), (((0, 1),),))
        self.assertIs(t.falls_to(table, team, (1, 3), (0, 1)), True)
        self.assertIs(t.falls_to(table, team, (1, 2), (1, 2)), True)
        self.assertIs(t.falls_to(table, team, (1, 2), (499, 1000)), False)

    def test_falls_to(self):
        told = set()
        for draw, form, table, team in cases():
            for damping in self.dampings(draw, table, team):
                for root in (Fraction(0), Fraction(1, 2), Fraction(9, 10), Fraction(99, 100)):
                    falls = t.falls_to(table, team, h.pair(damping), h.pair(root))
                    behind = h.turned(h.grid(t.damped_table(table, team, h.pair(damping))))
                    self.assertIs(falls, h.is_from_nought(h.combined(root * root, form, -1, h.on(form, behind))))
                    told.add((falls, root))
                    error = h.drawn_row(draw, len(form))
                    left = energy(form, step(form, team, damping, error))
                    self.assertLessEqual(falls, left <= root * root * energy(form, error))
                    self.assertEqual(t.falls_to(root=h.pair(root), damping=h.pair(damping), team=team, table=table), falls)
        self.assertIn((True, Fraction(9, 10)), told)
        self.assertIn((False, Fraction(9, 10)), told)

    def test_a_root_that_is_just_reached(self):
        table = h.table(LINK)
        team = t.exact_team(table, ((((1, 1), (0, 1)),), (((0, 1), (1, 1)),)))
        for damping, root, falls in (((1, 1), (1, 2), True), ((1, 1), (499, 1000), False), ((6, 5), (4, 5), True),
                                     ((6, 5), (799, 1000), False), ((4, 5), (3, 5), True), ((4, 5), (599, 1000), False),
                                     ((1, 1), (0, 1), False), ((2, 1), (999, 1000), False)):
            self.assertIs(t.falls_to(table, team, damping, root), falls)

    def test_a_root_of_nought(self):
        for draw, form, table, _ in cases():
            team = t.exact_team(table, (h.table(h.drawn_free(draw, len(form), len(form))),))
            self.assertIs(t.falls_to(table, team, (1, 1), (0, 1)), True)
            self.assertIs(t.falls_to(table, team, (1000, 1001), (0, 1)), False)
            self.assertIs(t.falls_to(table, team * 8, (1, 8), (0, 1)), True)

    def test_what_is_not_whole_falls_to_no_root(self):
        for _, form, table, team in cases():
            if not t.is_whole_team(table, team):
                self.assertIs(t.falls_to(table, team, (1, 100), (999999, 1000000)), False)


if __name__ == "__main__":
    unittest.main()
