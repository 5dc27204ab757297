import unittest
from fractions import Fraction

import helpers as h
from splitcosts import coarse as c

MANIES = (1, 2, 3, 4, 5)
FIRM = h.table(((2, 1), (1, 2)))
LOWER = h.table(((2, 0), (1, 2)))
SHARES = (Fraction(0), Fraction(1, 10), Fraction(1, 2), Fraction(9, 10), Fraction(999, 1000))


def cases():
    """Tables of 1 to 5 rows, each with drawn smoothers, which are not alike turned over for two rows or more."""
    for many in MANIES:
        for seed in range(4):
            draw = h.draws(1000 * many + seed)
            form = h.drawn_positive(draw, many)
            smoother = h.drawn_smoother(draw, form)
            yield draw, form, smoother, h.table(form), h.table(smoother)


def gap(form, smoother):
    return h.combined(1, h.combined(1, smoother, 1, h.turned(smoother)), -1, form)


def smoothed(form, smoother):
    return h.product(smoother, h.product(h.inverse(gap(form, smoother)), h.turned(smoother)))


def measured(form, smoother, share):
    return h.combined(1, h.inverse(smoothed(form, smoother)), share - 1, h.inverse(form))


def energy_left(form, smoother, coarse, error):
    return h.worth(form, h.times(h.two_grid_errors(form, smoother, coarse), error))


def coarse_draws(draw, many):
    """No rows, some, and all: () and n rows among them."""
    return [h.drawn_free(draw, count, many) for count in range(many + 1)]


def signs_beside(form, smoother, kept, share):
    """The signs below 0 of the measure at rows that are 0 with the kept ones."""
    basis = h.nulls(kept, len(form))
    return h.signs_below(h.on(measured(form, smoother, share), basis)) if basis else 0


def signs_above(form, smoother, kept, share):
    less = [[-x for x in row] for row in measured(form, smoother, share)]
    return h.signs_below(h.on(less, h.nulls(kept, len(form))))


class Tables(unittest.TestCase):
    def test_the_drawn_smoothers(self):
        alike = {many: [] for many in MANIES}
        for _, form, smoother, _, _ in cases():
            self.assertTrue(h.is_positive(gap(form, smoother)))
            alike[len(form)].append(smoother == h.turned(smoother))
        self.assertEqual([all(alike[many]) for many in MANIES], [True, False, False, False, False])

    def test_smoothed_table(self):
        for _, form, smoother, table, told in cases():
            found = c.smoothed_table(table, told)
            self.assertEqual(found, h.table(smoothed(form, smoother)))
            self.assertTrue(h.is_positive(h.grid(found)))
            self.assertEqual(c.smoothed_table(smoother=told, table=table), found)

    def test_turned_over_it_is_another_one(self):
        upper = h.table(((2, 1), (0, 2)))
        self.assertEqual(c.smoothed_table(FIRM, LOWER), (((2, 1), (1, 1)), ((1, 1), (5, 2))))
        self.assertEqual(c.smoothed_table(FIRM, upper), (((5, 2), (1, 1)), ((1, 1), (2, 1))))
        first = (((1, 1), (0, 1)),)
        self.assertEqual(c.coarse_factor_near(FIRM, LOWER, first, 16), (4, True))
        self.assertEqual(c.coarse_factor_near(FIRM, upper, first, 16), (1, True))

    def test_measure(self):
        for _, form, smoother, table, told in cases():
            for share in SHARES:
                found = c.measure(table, told, h.pair(share))
                self.assertEqual(found, h.table(measured(form, smoother, share)))
                self.assertEqual(c.measure(most=h.pair(share), smoother=told, table=table), found)

    def test_two_grids(self):
        for draw, form, _, table, told in cases():
            units = h.table(h.units(len(form)))
            for coarse in coarse_draws(draw, len(form)):
                rows = h.table(coarse)
                found = c.two_grids(table, told, rows)
                ahead = ((rows, h.table(h.on(form, coarse))),) if coarse else ()
                self.assertEqual(found, ahead + ((units, told),))
                self.assertEqual(c.two_grids(coarse=rows, smoother=told, table=table), found)

    def test_one_row(self):
        table, smoother = (((2, 1),),), (((4, 1),),)
        self.assertEqual(c.two_grids(table, smoother, ()), (((((1, 1),),), smoother),))
        self.assertEqual(c.two_grids(table, smoother, (((3, 1),),)), (((((3, 1),),), (((18, 1),),)), ((((1, 1),),), smoother)))
        self.assertEqual(c.smoothed_table(table, smoother), (((8, 3),),))
        self.assertEqual(c.measure(table, smoother, (0, 1)), (((-1, 8),),))
        self.assertEqual(c.coarse_factor_near(table, smoother, (), 8), (2, True))
        self.assertEqual(c.coarse_factor_near(table, smoother, (((3, 1),),), 8), (0, True))
        self.assertEqual([c.least_count(table, smoother, most) for most in ((0, 1), (6, 25), (1, 4))], [1, 1, 0])
        self.assertEqual(c.best_rows(table, smoother, (), 0, (1, 4)), ())
        self.assertIsNone(c.best_rows(table, smoother, (), 0, (6, 25)))
        self.assertEqual(len(c.barring_rows(table, smoother, (), 0, (6, 25))), 1)
        self.assertEqual(c.best_factor_near(table, smoother, (), 0, 9), (2, False))
        self.assertEqual(c.best_factor_near(table, smoother, (), 1, 9), (0, True))


class Factors(unittest.TestCase):
    def test_has_coarse_factor(self):
        told = set()
        for draw, form, smoother, table, given in cases():
            for coarse in coarse_draws(draw, len(form)):
                errors = h.two_grid_errors(form, smoother, coarse)
                for share in SHARES:
                    found = c.has_coarse_factor(table, given, h.table(coarse), h.pair(share))
                    self.assertIs(found, h.has_factor(form, errors, share))
                    told.add((found, share))
                    error = h.drawn_row(draw, len(form))
                    left = energy_left(form, smoother, coarse, error)
                    self.assertLessEqual(found, left <= share * h.worth(form, error))
                    named = c.has_coarse_factor(most=h.pair(share), coarse=h.table(coarse), smoother=given, table=table)
                    self.assertIs(named, found)
        for share in SHARES[:-1]:
            self.assertLessEqual({(True, share), (False, share)}, told)

    def test_coarse_beyond(self):
        told = set()
        for draw, form, smoother, table, given in cases():
            for coarse in coarse_draws(draw, len(form)):
                for share in SHARES:
                    row = c.coarse_beyond(table, given, h.table(coarse), h.pair(share))
                    has = c.has_coarse_factor(table, given, h.table(coarse), h.pair(share))
                    self.assertEqual(row is None, has)
                    told.add(has)
                    if not has:
                        self.is_beyond(form, smoother, coarse, share, row)
                    named = c.coarse_beyond(most=h.pair(share), coarse=h.table(coarse), smoother=given, table=table)
                    self.assertEqual(named, row)
        self.assertEqual(told, {True, False})

    def is_beyond(self, form, smoother, coarse, share, row):
        self.assertTrue(h.is_row(row, len(form)))
        seen = h.numbers(row)
        self.assertFalse(any(h.times(coarse, seen)))
        self.assertLess(h.worth(measured(form, smoother, share), seen), 0)
        error = h.times(h.inverse(form), seen)
        self.assertGreater(energy_left(form, smoother, coarse, error), share * h.worth(form, error))

    def test_coarse_factor_near(self):
        for draw, form, smoother, table, given in cases():
            for coarse in coarse_draws(draw, len(form)):
                errors = h.two_grid_errors(form, smoother, coarse)
                for many in (1, 7, 1000, 10 ** 6):
                    found = c.coarse_factor_near(table, given, h.table(coarse), many)
                    self.assertTrue(h.is_near(form, h.on(form, h.turned(errors)), found, many))
                    named = c.coarse_factor_near(many=many, coarse=h.table(coarse), smoother=given, table=table)
                    self.assertEqual(named, found)

    def test_all_rows_leave_nothing(self):
        for draw, form, _, table, given in cases():
            rows = h.table(h.drawn_free(draw, len(form), len(form)))
            for many in (1, 5, 10 ** 6):
                self.assertEqual(c.coarse_factor_near(table, given, rows, many), (0, True))
            self.assertIs(c.has_coarse_factor(table, given, rows, (0, 1)), True)
            self.assertIsNone(c.coarse_beyond(table, given, rows, (0, 1)))

    def test_an_exact_smoother_leaves_nothing(self):
        for draw, form, _, table, _ in cases():
            for coarse in coarse_draws(draw, len(form)):
                self.assertEqual(c.coarse_factor_near(table, table, h.table(coarse), 10), (0, True))
                self.assertIs(c.has_coarse_factor(table, table, h.table(coarse), (0, 1)), True)
            self.assertEqual(c.least_count(table, table, (0, 1)), 0)

    def test_just_reached(self):
        first = (((1, 1), (0, 1)),)
        for most, has in (((1, 4), True), ((249, 1000), False), ((251, 1000), True), ((0, 1), False)):
            self.assertIs(c.has_coarse_factor(FIRM, LOWER, first, most), has)
            self.assertEqual(c.coarse_beyond(FIRM, LOWER, first, most) is None, has)
        told = [c.coarse_factor_near(FIRM, LOWER, first, many) for many in (1, 4, 5, 10 ** 6, 10 ** 6 - 1)]
        self.assertEqual(told, [(0, False), (1, True), (1, False), (250000, True), (249999, False)])

    def test_the_span_alone_counts(self):
        for draw, form, _, table, given in cases():
            for coarse in coarse_draws(draw, len(form))[1:]:
                other = h.product(h.drawn_free(draw, len(coarse), len(coarse)), coarse)
                for told in ((c.has_coarse_factor, (1, 3)), (c.coarse_factor_near, 1000)):
                    self.assertEqual(told[0](table, given, h.table(coarse), told[1]),
                                     told[0](table, given, h.table(other), told[1]))


class Best(unittest.TestCase):
    def counts(self, draw, form):
        """Kept rows of every number, and counts: as many as these, one more, all."""
        for kept in coarse_draws(draw, len(form)):
            for count in sorted({len(kept), min(len(kept) + 1, len(form)), len(form)}):
                yield kept, count

    def test_least_count(self):
        for _, form, smoother, table, given in cases():
            for share in SHARES:
                least = c.least_count(table, given, h.pair(share))
                self.assertEqual(least, h.signs_below(measured(form, smoother, share)))
                self.assertEqual(c.least_count(most=h.pair(share), smoother=given, table=table), least)
                for count in range(len(form) + 1):
                    found = c.best_rows(table, given, (), count, h.pair(share))
                    self.assertEqual(found is None, count < least)

    def test_best_rows(self):
        told = set()
        for draw, form, smoother, table, given in cases():
            for kept, count in self.counts(draw, form):
                for share in SHARES:
                    rows = c.best_rows(table, given, h.table(kept), count, h.pair(share))
                    barring = c.barring_rows(table, given, h.table(kept), count, h.pair(share))
                    self.assertEqual(rows is None, barring is not None)
                    does = signs_beside(form, smoother, kept, share) <= count - len(kept)
                    self.assertEqual(rows is not None, does)
                    told.add((does, len(kept), count))
                    if does:
                        self.are_best(form, smoother, kept, count, share, rows)
        for many in MANIES:
            self.assertIn((True, 0, many), told)
            self.assertIn((True, many, many), told)
            self.assertIn((False, many - 1, many - 1), told)

    def are_best(self, form, smoother, kept, count, share, rows):
        self.assertTrue(h.is_rows(rows, len(form)))
        self.assertEqual(rows[:len(kept)], h.table(kept))
        self.assertEqual(len(rows), count)
        self.assertTrue(h.are_free(h.grid(rows)))
        self.assertTrue(h.has_factor(form, h.two_grid_errors(form, smoother, h.grid(rows)), share))
        self.assertIs(c.has_coarse_factor(h.table(form), h.table(smoother), rows, h.pair(share)), True)

    def test_barring_rows(self):
        for draw, form, smoother, table, given in cases():
            for kept, count in self.counts(draw, form):
                for share in SHARES:
                    rows = c.barring_rows(table, given, h.table(kept), count, h.pair(share))
                    if rows is not None:
                        self.do_bar(form, smoother, kept, count, share, rows)
                        self.bar_drawn_rows(draw, form, smoother, kept, count, share, rows)

    def do_bar(self, form, smoother, kept, count, share, rows):
        self.assertTrue(h.is_rows(rows, len(form)))
        self.assertEqual(len(rows), count - len(kept) + 1)
        rows = h.grid(rows)
        self.assertTrue(h.are_free(rows))
        for row in rows:
            self.assertFalse(any(h.times(kept, row)))
        less = h.on(measured(form, smoother, share), rows)
        self.assertTrue(h.is_positive([[-x for x in row] for row in less]))

    def bar_drawn_rows(self, draw, form, smoother, kept, count, share, rows):
        """Whatever coarse rows are drawn: some sum of the barring rows is 0 with them and tells an error beyond."""
        coarse = list(kept)
        while len(coarse) < count:
            row = h.drawn_row(draw, len(form), 2)
            if h.are_free(coarse + [row]):
                coarse.append(row)
        rows = h.grid(rows)
        met = [[h.dot(line, row) for row in rows] for line in coarse[len(kept):]]
        free = []
        for line in met:
            if h.are_free(free + [line]):
                free.append(line)
        factors = h.nulls(free, len(rows))[0]
        seen = h.times(h.turned(rows), factors)
        self.assertTrue(any(seen))
        self.assertFalse(any(h.times(coarse, seen)))
        error = h.times(h.inverse(form), seen)
        self.assertGreater(energy_left(form, smoother, coarse, error), share * h.worth(form, error))
        self.assertIs(c.has_coarse_factor(h.table(form), h.table(smoother), h.table(coarse), h.pair(share)), False)

    def test_by_name_and_again(self):
        for draw, form, smoother, table, given in cases():
            for kept, count in self.counts(draw, form):
                rows = h.table(kept)
                for told in (c.best_rows, c.barring_rows):
                    found = told(table, given, rows, count, (1, 5))
                    self.assertEqual(told(most=(1, 5), count=count, kept=rows, smoother=given, table=table), found)
                    self.assertEqual(told(table, given, rows, count, (1, 5)), found)
                found = c.best_factor_near(table, given, rows, count, 12)
                self.assertEqual(c.best_factor_near(many=12, count=count, kept=rows, smoother=given, table=table), found)

    def test_best_factor_near(self):
        for draw, form, smoother, table, given in cases():
            for kept, count in self.counts(draw, form):
                for many in (1, 9, 10 ** 6):
                    found = c.best_factor_near(table, given, h.table(kept), count, many)
                    self.assertEqual([type(part) for part in found], [int, bool])
                    self.is_best_near(form, smoother, kept, count, many, found)

    def is_best_near(self, form, smoother, kept, count, many, found):
        k, is_just = found
        spare, rest = count - len(kept), len(form) - len(kept)
        self.assertTrue(0 <= k < many)
        self.assertIs(signs_beside(form, smoother, kept, Fraction(k, many)) <= spare, is_just)
        if spare == rest:
            self.assertEqual(found, (0, True))
        else:
            self.assertLess(signs_above(form, smoother, kept, Fraction(k, many)), rest - spare)
            self.assertGreaterEqual(signs_above(form, smoother, kept, Fraction(k + 1, many)), rest - spare)

    def test_best_factor_is_reached_by_best_rows_alone(self):
        for draw, form, _, table, given in cases():
            for kept, count in self.counts(draw, form):
                rows = h.table(kept)
                k, is_just = c.best_factor_near(table, given, rows, count, 60)
                self.assertEqual(c.best_rows(table, given, rows, count, h.pair(Fraction(k, 60))) is not None, is_just)
                if k + 1 < 60:
                    found = c.best_rows(table, given, rows, count, h.pair(Fraction(k + 1, 60)))
                    self.assertLessEqual(c.coarse_factor_near(table, given, found, 60)[0], k + 1)
                if count == len(kept):
                    self.assertEqual(c.coarse_factor_near(table, given, rows, 60), (k, is_just))

    def test_more_rows_never_do_worse(self):
        for draw, form, _, table, given in cases():
            found = [c.best_factor_near(table, given, (), count, 10 ** 6) for count in range(len(form) + 1)]
            self.assertEqual([k for k, _ in found], sorted([k for k, _ in found], reverse=True))
            self.assertEqual(found[-1], (0, True))
            for _ in range(3):
                coarse = h.table(h.drawn_free(draw, draw.randint(0, len(form)), len(form)))
                self.assertLessEqual(found[len(coarse)][0], c.coarse_factor_near(table, given, coarse, 10 ** 6)[0])

    def test_a_measure_with_noughts_along(self):
        table, smoother = h.table(h.units(2)), h.table(((Fraction(8, 3), Fraction(-4, 3)), (Fraction(-4, 3), Fraction(8, 3))))
        share = (5, 16)
        self.assertEqual(c.measure(table, smoother, share), (((0, 1), (1, 4)), ((1, 4), (0, 1))))
        self.assertEqual(c.least_count(table, smoother, share), 1)
        self.assertIsNone(c.best_rows(table, smoother, (), 0, share))
        form, given = h.units(2), h.grid(smoother)
        self.are_best(form, given, [], 1, Fraction(5, 16), c.best_rows(table, smoother, (), 1, share))
        self.are_best(form, given, [], 2, Fraction(5, 16), c.best_rows(table, smoother, (), 2, share))
        self.do_bar(form, given, [], 0, Fraction(5, 16), c.barring_rows(table, smoother, (), 0, share))
        self.assertIsNone(c.barring_rows(table, smoother, (), 1, share))
        for row in h.units(2):
            self.assertIs(c.has_coarse_factor(table, smoother, h.table([row]), share), True)
            self.assertEqual(c.coarse_factor_near(table, smoother, h.table([row]), 16), (5, True))
            self.assertEqual(c.best_rows(table, smoother, h.table([row]), 1, share), h.table([row]))
        self.assertEqual(c.best_factor_near(table, smoother, (), 1, 16), (1, True))
        self.assertEqual(c.best_factor_near(table, smoother, (), 0, 16), (9, True))

    def test_a_best_factor_that_is_just_reached(self):
        chain = h.table(((2, -1, 0), (-1, 2, -1), (0, -1, 2)))
        slant = h.table(((4, 0, 0), (0, 4, 0), (0, 0, 4)))
        # S^-1 is M^-1 (2 M - A) M^-1: (8 - l) / 16 beside 1 / l for the root l = 2 of A: 1 - 2 * 6 / 16 is 1 / 4.
        self.assertEqual(c.best_factor_near(chain, slant, (), 1, 4), (1, True))
        self.assertEqual(c.best_factor_near(chain, slant, (), 1, 10 ** 6), (250000, True))
        self.assertEqual(c.best_factor_near(chain, slant, (), 1, 10 ** 6 - 1), (249999, False))
        self.assertEqual(c.best_factor_near(chain, slant, (), 0, 1000), (728, False))
        self.assertEqual([c.least_count(chain, slant, most) for most in ((1, 4), (249, 1000), (73, 100), (0, 1))], [1, 2, 0, 3])
        rows = c.best_rows(chain, slant, (), 1, (1, 4))
        self.assertEqual(c.coarse_factor_near(chain, slant, rows, 4), (1, True))
        self.assertIsNone(c.barring_rows(chain, slant, (), 1, (1, 4)))
        self.assertEqual(len(c.barring_rows(chain, slant, (), 1, (249, 1000))), 2)


if __name__ == "__main__":
    unittest.main()
