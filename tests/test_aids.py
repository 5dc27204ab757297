import unittest
from fractions import Fraction

import helpers as h
from splitcosts import aids as a
from splitcosts import errors

MANIES = (1, 2, 3, 4, 5)
LINK = h.table(((2, -1), (-1, 2)))
UNITS = h.table(h.units(2))


def cases():
    """Tables of 1 to 5 rows, each with drawn aids of 1 row up to as many: exact ones, and solvers of all kinds."""
    for many in MANIES:
        for count in range(1, many + 1):
            draw = h.draws(100 * many + count)
            form = h.drawn_positive(draw, many)
            rows = h.drawn_free(draw, count, many)
            told = h.table(form)
            yield draw, form, told, h.exact_aid(form, rows)
            yield draw, form, told, (h.table(rows), h.table(h.drawn_smoother(draw, h.on(form, rows))))


def energy(form, error):
    return h.worth(form, error)


def other_rows(draw, aid):
    """Other rows of the same span: T W, and T."""
    change = h.drawn_free(draw, len(aid[0]), len(aid[0]))
    return h.table(h.product(change, h.grid(aid[0]))), change


class Gaps(unittest.TestCase):
    def with_gaps(self):
        """Rows and solvers with gaps of all kinds of signs."""
        for many in MANIES:
            for count in range(1, many + 1):
                draw = h.draws(7 * many + count)
                form = h.drawn_positive(draw, many)
                rows = h.drawn_free(draw, count, many)
                for gap in h.drawn_forms(draw, count):
                    skew = [[h.drawn_fraction(draw, 2) for _ in range(count)] for _ in range(count)]
                    half = h.combined(Fraction(1, 2), gap, Fraction(1, 2), h.on(form, rows))
                    solver = h.combined(1, half, 1, h.combined(1, skew, -1, h.turned(skew)))
                    yield h.table(form), h.table(rows), h.table(solver), gap

    def test_gap(self):
        for table, rows, solver, gap in self.with_gaps():
            self.assertEqual(a.gap(table, rows, solver), h.table(gap))
            self.assertEqual(a.gap(solver=solver, rows=rows, table=table), h.table(gap))

    def test_unsafe_row(self):
        told = set()
        for table, rows, solver, gap in self.with_gaps():
            found = a.unsafe_row(table, rows, solver)
            self.assertEqual(a.unsafe_row(solver=solver, rows=rows, table=table), found)
            self.assertEqual(found is None, h.is_positive(gap))
            self.assertIs(a.is_aid(table, (rows, solver)), found is None)
            self.assertIs(a.is_aid(value=(rows, solver), table=table), found is None)
            told.add((len(table), len(rows), found is None))
            if found is not None:
                self.assertTrue(h.is_row(found, len(rows)))
                self.assertTrue(any(h.numbers(found)))
                self.assertLessEqual(h.worth(gap, h.numbers(found)), 0)
        self.assertEqual(told, {(n, k, none) for n in MANIES for k in range(1, n + 1) for none in (True, False)})

    def test_just_not_positive(self):
        near = Fraction(1, 10 ** 40)
        for step, is_aid in ((near, True), (0, False), (-near, False)):
            wide = (UNITS, h.table(((1 + step, 5), (-6, 1 + step))))
            for aid in (wide, (UNITS[:1], h.table(((1 + step,),)))):
                self.assertIs(a.is_aid(LINK, aid), is_aid)
                self.assertEqual(a.unsafe_row(LINK, aid[0], aid[1]) is None, is_aid)
            # Here the gap stays 0 in the second place.
            self.assertIs(a.is_aid(LINK, (UNITS, h.table(((1 + step, 0), (-1, 1))))), False)

    def test_a_gap_of_nought(self):
        half = h.table(((1, Fraction(-1, 2)), (Fraction(-1, 2), 1)))
        self.assertEqual(a.gap(LINK, UNITS, half), (((0, 1),) * 2,) * 2)
        self.assertEqual(a.gap(LINK, UNITS, UNITS), h.table(((0, 1), (1, 0))))
        self.assertEqual(a.gap(LINK, UNITS[:1], (((1, 1),),)), (((0, 1),),))
        for solver in (half, UNITS):
            self.assertIs(a.is_aid(LINK, (UNITS, solver)), False)

    def test_the_gap_of_an_exact_aid_is_its_solver(self):
        for _, form, table, aid in cases():
            if aid == a.exact_aid(table, aid[0]):
                self.assertEqual(a.gap(table, aid[0], aid[1]), aid[1])


class Aids(unittest.TestCase):
    def test_is_aid(self):
        for _, form, table, aid in cases():
            rows, solver = aid
            self.assertIs(a.is_aid(table, aid), True)
            self.assertIs(a.is_aid(table, (rows, h.table(h.turned(h.grid(solver))))), True)
            self.assertIs(a.is_aid(table, (rows + rows[:1], solver)), False)
            self.assertIs(a.is_aid(table, (rows, solver + solver[:1])), False)
            self.assertIs(a.is_aid(table, (rows, solver[:-1])), False)
            self.assertIs(a.is_aid(table, (rows[:-1], solver)), False)
            self.assertIs(a.is_aid(table, (rows, h.table([[-x for x in row] for row in h.grid(solver)]))), False)

    def test_exact_aid(self):
        for _, form, table, aid in cases():
            found = a.exact_aid(table, aid[0])
            self.assertEqual(found, h.exact_aid(form, h.grid(aid[0])))
            self.assertEqual(a.exact_aid(rows=aid[0], table=table), found)
            self.assertIs(a.is_aid(table, found), True)

    def test_smoother_aid(self):
        for many in MANIES:
            draw = h.draws(many)
            form = h.drawn_positive(draw, many)
            for smoother in (h.drawn_smoother(draw, form), form):
                found = a.smoother_aid(h.table(form), h.table(smoother))
                self.assertEqual(found, (h.table(h.units(many)), h.table(smoother)))
                self.assertEqual(a.smoother_aid(solver=h.table(smoother), table=h.table(form)), found)
                self.assertIs(a.is_aid(h.table(form), found), True)

    def test_a_smoother_that_is_just_safe(self):
        for many in MANIES:
            table = h.table(h.units(many))
            for half, is_safe in ((Fraction(1, 2), False), (Fraction(501, 1000), True), (Fraction(499, 1000), False)):
                solver = h.table([[half * x for x in row] for row in h.units(many)])
                if is_safe:
                    self.assertEqual(a.smoother_aid(table, solver), (table, solver))
                else:
                    self.assertRaises(errors.NotSafe, a.smoother_aid, table, solver)

    def test_point_aids(self):
        for _, form, table, _ in cases():
            found = a.point_aids(table)
            units = h.units(len(form))
            self.assertEqual(found, tuple(h.exact_aid(form, [row]) for row in units))
            self.assertEqual(found, tuple(((row,), ((table[at][at],),)) for at, row in enumerate(h.table(units))))
            self.assertEqual(a.point_aids(table=table), found)

    def test_lot_aids(self):
        for draw, form, table, _ in cases():
            many = len(form)
            lots = [tuple(sorted(draw.sample(range(many), draw.randint(1, many)))) for _ in range(draw.randint(1, 7))]
            for some in (lots, lots + lots[:1], [tuple(range(many))], [(many - 1,), tuple(range(many)), (0,)]):
                found = a.lot_aids(table, tuple(some))
                self.assertEqual(found, tuple(h.exact_aid(form, [h.units(many)[at] for at in lot]) for lot in some))
                self.assertEqual(a.lot_aids(lots=tuple(some), table=table), found)

    def test_lots_by_hand(self):
        chain = h.table(((2, -1, 0), (-1, 2, -1), (0, -1, 2)))
        first, second = h.table(h.units(3))[:2], h.table(h.units(3))[1:]
        self.assertEqual(a.lot_aids(chain, ((0, 1), (1, 2))), ((first, LINK), (second, LINK)))
        self.assertEqual(a.lot_aids(chain, ((0, 1),) * 8), ((first, LINK),) * 8)
        self.assertEqual(a.lot_aids(chain, ((0, 2),))[0][1], h.table(((2, 0), (0, 2))))
        self.assertEqual(a.lot_aids(chain, ((0, 1, 2),)), ((h.table(h.units(3)), chain),))
        self.assertEqual(a.lot_aids(chain, ((2,), (0,))), a.point_aids(chain)[::-2])


class Steps(unittest.TestCase):
    def errors(self, draw, many):
        return [h.drawn_row(draw, many) for _ in range(3)] + [h.units(many)[0]]

    def test_step_and_fall(self):
        for draw, form, table, aid in cases():
            for error in self.errors(draw, len(form)):
                found = a.step(table, aid, h.pairs(error))
                self.assertEqual(found, h.pairs(h.aid_step(form, aid, error)))
                fall = a.fall(table, aid, h.pairs(error))
                self.assertEqual(h.number(fall), energy(form, error) - energy(form, h.numbers(found)))
                self.assertEqual(h.number(fall), h.worth(h.less_gap(form, aid), h.numbers_taken(form, aid, error)))
                self.assertEqual(a.step(row=h.pairs(error), aid=aid, table=table), found)
                self.assertEqual(a.fall(row=h.pairs(error), aid=aid, table=table), fall)

    def test_the_energy_stays_only_where_the_error_does(self):
        for draw, form, table, aid in cases():
            seen = h.product(h.grid(aid[0]), form)
            for error in self.errors(draw, len(form)):
                self.assertEqual(a.fall(table, aid, h.pairs(error))[0] > 0, any(h.times(seen, error)))
            for error in h.nulls(seen, len(form)):
                self.assertEqual(a.step(table, aid, h.pairs(error)), h.pairs(error))
                self.assertEqual(a.fall(table, aid, h.pairs(error)), (0, 1))
            nothing = ((0, 1),) * len(form)
            self.assertEqual(a.step(table, aid, nothing), nothing)
            self.assertEqual(a.fall(table, aid, nothing), (0, 1))

    def test_behind_an_exact_aid(self):
        for draw, form, table, aid in cases():
            exact, rows = a.exact_aid(table, aid[0]), h.grid(aid[0])
            for error in self.errors(draw, len(form)):
                left = h.numbers(a.step(table, exact, h.pairs(error)))
                self.assertFalse(any(h.times(rows, h.times(form, left))))
                for _ in range(3):
                    other = h.less(error, h.sum_of_rows(h.drawn_row(draw, len(rows)), rows, len(form)))
                    self.assertLessEqual(energy(form, left), energy(form, other))
                self.assertEqual(a.step(table, exact, h.pairs(left)), h.pairs(left))

    def test_of_an_exact_aid_the_span_alone_decides(self):
        for draw, form, table, aid in cases():
            rows, _ = other_rows(draw, aid)
            exact, other = a.exact_aid(table, aid[0]), a.exact_aid(table, rows)
            for error in self.errors(draw, len(form)):
                for told in (a.step, a.fall):
                    self.assertEqual(told(table, exact, h.pairs(error)), told(table, other, h.pairs(error)))

    def test_of_other_aids_one_table_alone_decides(self):
        for draw, form, table, aid in cases():
            rows, change = other_rows(draw, aid)
            other = (rows, h.table(h.product(change, h.product(h.grid(aid[1]), h.turned(change)))))
            self.assertIs(a.is_aid(table, other), True)
            for error in self.errors(draw, len(form)):
                for told in (a.step, a.fall):
                    self.assertEqual(told(table, aid, h.pairs(error)), told(table, other, h.pairs(error)))

    def test_an_exact_aid_of_all_rows_leaves_nothing(self):
        for draw, form, table, _ in cases():
            aid = a.exact_aid(table, h.table(h.drawn_free(draw, len(form), len(form))))
            error = h.drawn_row(draw, len(form))
            self.assertEqual(a.step(table, aid, h.pairs(error)), ((0, 1),) * len(form))
            self.assertEqual(a.fall(table, aid, h.pairs(error)), h.pair(energy(form, error)))

    def test_a_solver_that_is_not_alike_turned_over(self):
        lower, upper = h.table(((2, 0), (-1, 2))), h.table(((2, -1), (0, 2)))
        row = ((1, 1), (0, 1))
        self.assertEqual(a.step(LINK, (UNITS, lower), row), h.pairs((0, 0)))
        self.assertEqual(a.step(LINK, (UNITS, upper), row), h.pairs((Fraction(1, 4), Fraction(1, 2))))
        self.assertEqual(a.fall(LINK, (UNITS, lower), row), (2, 1))
        self.assertEqual(a.fall(LINK, (UNITS, upper), row), (13, 8))


if __name__ == "__main__":
    unittest.main()
