import unittest
from fractions import Fraction

import helpers as h
from splitcosts import aids, coarse, errors, factors, methods
from splitcosts import smoothers as s
from wrongs import LINK, SWAP, UNSAFE, WRONG, wrong_smoothers

MANIES = (1, 2, 3, 4, 5)
FIRM = h.table(((2, 1), (1, 2)))


def cases():
    """Tables of 1 to 5 rows with two drawn smoothers."""
    for many in MANIES:
        for seed in range(5):
            draw = h.draws(500 * many + seed)
            form = h.drawn_positive(draw, many)
            yield draw, form, h.drawn_smoother(draw, form), h.drawn_smoother(draw, form)


def ordered_cases():
    """Smoothers of which the first one is never worse than the second one."""
    for draw, form, smoother, other in cases():
        yield draw, form, form, smoother
        yield draw, form, smoother, smoother
        yield draw, form, one_for_two(form, smoother, other), smoother
        yield draw, form, smoother, slower(form, smoother)


def one_for_two(form, smoother, other):
    """The smoother that does what both do, the first one first: it leaves no more than this one alone."""
    errors = h.product(h.two_grid_errors(form, other, []), h.two_grid_errors(form, smoother, []))
    return h.inverse(h.product(h.combined(1, h.units(len(form)), -1, errors), h.inverse(form)))


def slower(form, smoother):
    """A / r, which lets the energy fall by 2 r - r r times itself, with r so small that this is not more."""
    r, back = Fraction(1), h.inverse(form)
    while not h.is_from_nought(h.combined(1, less_by(form, smoother), r * r - 2 * r, back)):
        r = r / 2
    return [[x / r for x in row] for row in form]


def less_by(form, smoother):
    """S^-1 = M^-1' D M^-1."""
    back = h.inverse(smoother)
    gap = h.combined(1, h.combined(1, smoother, 1, h.turned(smoother)), -1, form)
    return h.product(h.turned(back), h.product(gap, back))


def is_never_worse(form, smoother, other):
    return h.is_from_nought(h.combined(1, less_by(form, smoother), -1, less_by(form, other)))


def left_of(form, smoother, rows):
    """For n - 1 coarse rows the factor: of the errors e with A e = y, W y noughts."""
    row = h.nulls(rows, len(form))[0]
    error = h.times(h.inverse(form), row)
    left = h.times(h.two_grid_errors(form, smoother, rows), error)
    return h.worth(form, left) / h.worth(form, error)


class Told(unittest.TestCase):
    def test_is_smoother(self):
        told = set()
        for draw, form, smoother, _ in cases():
            other = [[x + h.drawn_fraction(draw) for x in row] for row in smoother]
            for some in (smoother, other, h.turned(smoother), form, [[x / 2 for x in row] for row in form]):
                found = s.is_smoother(h.table(form), h.table(some))
                gap = h.combined(1, h.combined(1, some, 1, h.turned(some)), -1, form)
                self.assertIs(found, h.is_positive(gap))
                self.assertIs(s.is_smoother(value=h.table(some), table=h.table(form)), found)
                told.add((len(form), found))
        self.assertEqual(told, {(many, found) for many in MANIES for found in (True, False)})

    def test_whatever_the_value_is(self):
        for value in wrong_smoothers():
            self.assertIs(s.is_smoother(LINK, value), False)
        for kind in ("method", "aid", "team", "rows", "row"):
            for value, _, _, _ in WRONG[kind]:
                self.assertIs(type(s.is_smoother(LINK, value)), bool)

    def test_the_table_is_checked(self):
        for value, _, _, _ in WRONG["table"]:
            for some in (LINK, None):
                with self.assertRaises(errors.InvalidTable) as caught:
                    s.is_smoother(value, some)
                self.assertIs(caught.exception.given, value)


class Lower(unittest.TestCase):
    def test_its_numbers(self):
        for _, form, _, _ in cases():
            table = h.table(form)
            found = s.lower_smoother(table)
            self.assertEqual(found, h.table([[x if place <= at else 0 for place, x in enumerate(row)] for at, row in enumerate(form)]))
            self.assertIs(s.is_smoother(table, found), True)
            self.assertEqual(s.lower_smoother(table=table), found)
            slant = [[x if at == place else 0 for place, x in enumerate(row)] for at, row in enumerate(form)]
            self.assertEqual(aids.gap(table, h.table(h.units(len(form))), found), h.table(slant))

    def test_it_does_what_the_points_do_one_behind_another(self):
        for draw, form, _, _ in cases():
            table = h.table(form)
            smoothing, points = (aids.smoother_aid(table, s.lower_smoother(table)),), aids.point_aids(table)
            error = h.drawn_row(draw, len(form))
            self.assertEqual(h.method_step(form, smoothing, error), h.method_step(form, points, error))
            self.assertEqual(methods.error_table(table, smoothing), h.table(h.error_table(form, points)))
            self.assertEqual(factors.factor_near(table, smoothing, 1000), factors.factor_near(table, points, 1000))

    def test_by_hand(self):
        self.assertEqual(s.lower_smoother(FIRM), h.table(((2, 0), (1, 2))))
        self.assertEqual(s.lower_smoother((((3, 7),),)), (((3, 7),),))


class Slant(unittest.TestCase):
    WEIGHTS = (Fraction(1, 10), Fraction(1, 2), Fraction(2, 3), Fraction(1), Fraction(4, 3), Fraction(3, 2), Fraction(2), Fraction(5))

    def slant(self, form, weight):
        return [[x / weight if at == place else Fraction(0) for place, x in enumerate(row)] for at, row in enumerate(form)]

    def test_exactly_where_its_gap_is_positive(self):
        told = set()
        for _, form, _, _ in cases():
            table = h.table(form)
            for weight in self.WEIGHTS:
                expected = self.slant(form, weight)
                safe = h.is_positive(h.combined(2, expected, -1, form))
                told.add((len(form), safe))
                self.assertIs(s.is_smoother(table, h.table(expected)), safe)
                if safe:
                    self.assertEqual(s.slant_smoother(table, h.pair(weight)), h.table(expected))
                    self.assertEqual(s.slant_smoother(weight=h.pair(weight), table=table), h.table(expected))
                    continue
                for call in (lambda: s.slant_smoother(table, h.pair(weight)),
                             lambda: s.slant_smoother(weight=h.pair(weight), table=table)):
                    with self.assertRaises(errors.NotSafe) as caught:
                        call()
                    self.assertIs(type(caught.exception), errors.NotSafe)
                    self.assertEqual(vars(caught.exception), {})
        self.assertEqual(told, {(many, safe) for many in MANIES for safe in (True, False)})

    def test_just_not(self):
        """FIRM has 2 / w * 2 along less FIRM: the least root is 4 / w - 3. One row has 2 / w - 1."""
        for table, least in ((FIRM, Fraction(4, 3)), ((((7, 3),),), Fraction(2)), (h.table(h.units(5)), Fraction(2))):
            near = Fraction(1, 10 ** 30)
            for weight in (least, least + near, least + 1):
                self.assertRaises(errors.NotSafe, s.slant_smoother, table, h.pair(weight))
            self.assertEqual(h.number(s.slant_smoother(table, h.pair(least - near))[0][0]), h.number(table[0][0]) / (least - near))

    def test_not_safe_is_last(self):
        self.assertRaises(errors.InvalidTable, s.slant_smoother, SWAP, (9, 1))
        for value, error, _, _ in WRONG["weight"]:
            self.assertRaises(error, s.slant_smoother, FIRM, value)
        self.assertRaises(errors.NotSafe, s.slant_smoother, FIRM, (9, 1))


class Beside(unittest.TestCase):
    def test_is_never_worse(self):
        told = set()
        for _, form, smoother, other in cases():
            for first, second in ((smoother, other), (other, smoother), (smoother, h.turned(smoother)), (form, other), (other, form)):
                given = [h.table(part) for part in (form, first, second)]
                found = s.is_never_worse(*given)
                self.assertIs(found, is_never_worse(form, first, second))
                self.assertIs(s.is_never_worse(other=given[2], smoother=given[1], table=given[0]), found)
                told.add((len(form), found))
        self.assertEqual(told, {(many, found) for many in MANIES for found in (True, False)})

    def test_where_it_is_never_worse_no_coarse_rows_tell_otherwise(self):
        seen = 0
        for draw, form, smoother, other in ordered_cases():
            given = [h.table(part) for part in (form, smoother, other)]
            self.assertIs(s.is_never_worse(*given), True)
            self.assertIsNone(s.parting_rows(*given))
            for count in {0, len(form) - 1, draw.randint(0, len(form))}:
                rows = h.drawn_free(draw, count, len(form))
                k, _ = coarse.coarse_factor_near(given[0], given[1], h.table(rows), 1000)
                self.assertLessEqual(k, coarse.coarse_factor_near(given[0], given[2], h.table(rows), 1000)[0])
                if count == len(form) - 1:
                    self.assertLessEqual(left_of(form, smoother, rows), left_of(form, other, rows))
                    seen += 1
        self.assertGreater(seen, 50)

    def test_parting_rows(self):
        told = set()
        for _, form, smoother, other in cases():
            for first, second in ((smoother, other), (other, smoother), (smoother, h.turned(smoother))):
                given = [h.table(part) for part in (form, first, second)]
                found = s.parting_rows(*given)
                self.assertEqual(found is None, is_never_worse(form, first, second))
                self.assertEqual(s.parting_rows(other=given[2], smoother=given[1], table=given[0]), found)
                told.add((len(form), found is None))
                if found is None:
                    continue
                self.assertTrue(h.is_rows(found, len(form)))
                self.assertEqual(len(found), len(form) - 1)
                rows = h.grid(found)
                self.assertTrue(h.are_free(rows))
                worse = left_of(form, first, rows)
                better = left_of(form, second, rows)
                self.assertGreater(worse, better)
                self.assertIs(coarse.has_coarse_factor(given[0], given[2], found, h.pair(better)), True)
                self.assertIs(coarse.has_coarse_factor(given[0], given[1], found, h.pair(better)), False)
        self.assertLessEqual({(many, False) for many in MANIES}, told)

    def test_one_row(self):
        table = (((1, 1),),)
        numbers = [Fraction(x, 12) for x in (7, 9, 12, 15, 24, 36)]
        for first in numbers:
            for second in numbers:
                given = (table, h.table([[first]]), h.table([[second]]))
                worse = (1 - 1 / first) ** 2 > (1 - 1 / second) ** 2
                self.assertIs(s.is_never_worse(*given), not worse)
                self.assertEqual(s.parting_rows(*given), () if worse else None)

    def test_the_lower_one_beside_the_slant_one(self):
        """With a weight of 1, if it is a smoother, the lower one is never worse for one and two rows."""
        worse = set()
        for many in MANIES:
            for seed in range(30):
                draw = h.draws(900 * many + seed)
                form = h.drawn_positive(draw, many)
                form = h.combined(1, form, 1, [[x * max(map(max, form)) for x in row] for row in h.units(many)])
                table = h.table(form)
                try:
                    even = s.slant_smoother(table, (1, 1))
                except errors.NotSafe:
                    continue
                found = s.is_never_worse(table, s.lower_smoother(table), even)
                self.assertIs(found, is_never_worse(form, h.grid(s.lower_smoother(table)), h.grid(even)))
                worse.add((many, found))
        self.assertEqual({part for part in worse if part[0] < 3}, {(1, True), (2, True)})

    def test_a_smoother_that_is_turned_over_is_another_one(self):
        lower, upper = h.table(((2, 0), (1, 2))), h.table(((2, 1), (0, 2)))
        for first, second in ((lower, upper), (upper, lower)):
            self.assertIs(s.is_never_worse(FIRM, first, second), False)
            self.assertEqual(len(s.parting_rows(FIRM, first, second)), 1)
        self.assertIs(s.is_never_worse(FIRM, lower, lower), True)
        self.assertIs(s.is_never_worse(FIRM, FIRM, lower), True)
        self.assertIs(s.is_never_worse(FIRM, lower, FIRM), False)

    def test_unsafe_ones_are_not_let(self):
        for value in UNSAFE:
            for told in (s.is_never_worse, s.parting_rows):
                self.assertRaises(errors.InvalidSmoother, told, LINK, LINK, value)
                self.assertRaises(errors.InvalidSmoother, told, LINK, value, LINK)


if __name__ == "__main__":
    unittest.main()
