import unittest
from fractions import Fraction

import helpers as h
from splitcosts import aids, factors, together
from splitcosts import twospans as t

MANIES = (1, 2, 3, 4, 5)
LINK = h.table(((2, -1), (-1, 2)))
FIRST, SECOND = (((1, 1), (0, 1)),), (((0, 1), (1, 1)),)
SHARES = (Fraction(0), Fraction(1, 10), Fraction(1, 2), Fraction(99, 100))


def cases():
    """Tables of 1 to 5 rows with two spans, together all rows: that meet in noughts alone, in more, and all rows."""
    for many in MANIES:
        for more in (0, 1, 2, 5):
            draw = h.draws(100 * many + more)
            form = h.drawn_positive(draw, many)
            first, second = h.drawn_spans(draw, many, more)
            yield draw, form, first, second, h.table(form)


def told_cases():
    for draw, form, first, second, table in cases():
        yield form, first, second, (table, h.table(first), h.table(second))


def apart(form, rows):
    """Free rows, those without energy product with ROWS."""
    return h.nulls(h.product(rows, form), len(form))


def greatest_parts(form, some, others):
    """(form, left): the greatest (x . A y)^2 / (energy of x * energy of y), as that of (worth of left) / (worth of form).

    Both are forms of the numbers that add up OTHERS to y; x is a sum of multiples of SOME.
    """
    met = h.product(h.product(some, form), h.turned(others))
    left = h.product(h.turned(met), h.product(h.inverse(h.on(form, some)), met))
    return h.on(form, others), left


def has_product(form, first, second, share):
    """The form of point 22."""
    some, others = apart(form, first), apart(form, second)
    if not some or not others:
        return True
    whole, left = greatest_parts(form, some, others)
    return h.is_from_nought(h.combined(share, whole, -1, left))


def shares_about(told):
    k, _ = t.product_near(*told, 1000)
    return sorted(set(SHARES) | {Fraction(x, 1000) for x in (k - 1, k, k + 1) if 0 <= x < 1000})


def both_errors(form, first, second):
    return h.error_table(form, (h.exact_aid(form, first), h.exact_aid(form, second)))


class Products(unittest.TestCase):
    def test_product_up_to(self):
        told = set()
        for form, first, second, given in told_cases():
            for share in shares_about(given):
                found = t.product_up_to(*given, h.pair(share))
                self.assertIs(found, has_product(form, first, second, share))
                named = t.product_up_to(most=h.pair(share), second=given[2], first=given[1], table=given[0])
                self.assertIs(named, found)
                self.assertIs(t.product_up_to(given[0], given[2], given[1], h.pair(share)), found)
                told.add((len(form), found))
        self.assertEqual(told, {(many, found) for many in MANIES for found in (True, False)} - {(1, False)})

    def test_it_is_the_factor_of_both_exact_aids_in_either_order(self):
        for form, first, second, given in told_cases():
            method = tuple(h.exact_aid(form, rows) for rows in (first, second))
            for share in shares_about(given):
                found = t.product_up_to(*given, h.pair(share))
                for some in (method, method[::-1]):
                    self.assertIs(h.has_factor(form, h.error_table(form, some), share), found)
                    self.assertIs(factors.has_factor(given[0], some, h.pair(share)), found)
            for many in (1, 1000):
                for some in (method, method[::-1]):
                    self.assertEqual(factors.factor_near(given[0], some, many), t.product_near(*given, many))

    def test_rounds_have_its_odd_powers(self):
        for form, first, second, given in told_cases():
            once = both_errors(form, first, second)
            errors = once
            for rounds in (1, 2, 3):
                for share in shares_about(given):
                    found = t.product_up_to(*given, h.pair(share))
                    self.assertIs(h.has_factor(form, errors, share ** (2 * rounds - 1)), found)
                errors = h.product(once, errors)

    def test_product_near(self):
        for form, first, second, given in told_cases():
            some, others = apart(form, first), apart(form, second)
            for many in (1, 7, 1000, 10 ** 6):
                found = t.product_near(*given, many)
                self.assertEqual([type(part) for part in found], [int, bool])
                self.assertEqual(t.product_near(many=many, second=given[2], first=given[1], table=given[0]), found)
                self.assertEqual(t.product_near(given[0], given[2], given[1], many), found)
                if some and others:
                    self.assertTrue(h.is_near(*greatest_parts(form, some, others), found, many))
                else:
                    self.assertEqual(found, (0, True))

    def test_the_span_alone_counts(self):
        for draw, form, first, second, table in cases():
            other = [h.table(h.product(h.drawn_free(draw, len(rows), len(rows)), rows)) for rows in (first, second)]
            self.assertEqual(t.product_near(table, *other, 10 ** 6), t.product_near(table, h.table(first), h.table(second), 10 ** 6))

    def test_by_hand(self):
        """(1, 2) is apart from the first, (2, 1) from the second: 3 * 3 / (6 * 6)."""
        told = [t.product_near(LINK, FIRST, SECOND, many) for many in (1, 4, 5, 10 ** 6, 10 ** 6 - 1)]
        self.assertEqual(told, [(0, False), (1, True), (1, False), (250000, True), (249999, False)])
        for most, has in (((1, 4), True), ((249, 1000), False), ((251, 1000), True), ((0, 1), False)):
            self.assertIs(t.product_up_to(LINK, FIRST, SECOND, most), has)
            self.assertEqual(t.product_pair(LINK, FIRST, SECOND, most) is None, has)

    def test_no_fraction(self):
        """The squares of two cosines add up to 3, their product is 1: the greatest over 4 is (3 + 5 ^ 1/2) / 8."""
        met = [[Fraction(1, 2), Fraction(1, 2)], [0, Fraction(1, 2)]]
        form = [[*row, *line] for row, line in zip(h.units(2) + h.turned(met), met + h.units(2))]
        # The rows without energy product with some unit rows are those of the table's inverse at the other places; their
        # energy products are the inverse's numbers.
        table, units = h.table(h.inverse(form)), h.table(h.units(4))
        self.assertEqual(t.product_near(table, units[:2], units[2:], 10 ** 6), (654508, False))


class Pairs(unittest.TestCase):
    def test_product_pair(self):
        told = set()
        for form, first, second, given in told_cases():
            for share in shares_about(given):
                found = t.product_pair(*given, h.pair(share))
                has = has_product(form, first, second, share)
                self.assertEqual(found is None, has)
                self.assertEqual(t.product_pair(most=h.pair(share), second=given[2], first=given[1], table=given[0]), found)
                told.add(has)
                if not has:
                    self.is_pair(form, first, second, share, found)
        self.assertEqual(told, {True, False})

    def is_pair(self, form, first, second, share, found):
        self.assertEqual((type(found), len(found)), (tuple, 2))
        self.assertTrue(all(h.is_row(row, len(form)) for row in found))
        x, y = h.grid(found)
        self.assertTrue(any(x) and any(y))
        self.assertFalse(any(h.times(first, h.times(form, x))))
        self.assertFalse(any(h.times(second, h.times(form, y))))
        met = h.dot(x, h.times(form, y)) ** 2
        self.assertGreater(met, share * h.worth(form, x) * h.worth(form, y))

    def test_drawn_pairs_are_not_above_it(self):
        for draw, form, first, second, table in cases():
            some, others = apart(form, first), apart(form, second)
            if not some or not others:
                continue
            k, _ = t.product_near(table, h.table(first), h.table(second), 10 ** 6)
            for _ in range(5):
                x = h.sum_of_rows(h.drawn_row(draw, len(some)), some, len(form))
                y = h.sum_of_rows(h.drawn_row(draw, len(others)), others, len(form))
                met = h.dot(x, h.times(form, y)) ** 2
                self.assertLess(met, Fraction(k + 1, 10 ** 6) * h.worth(form, x) * h.worth(form, y))

    def test_the_spans_themselves_have_the_same_greatest_quotient(self):
        """Those of the rows in them that have no energy product with what is in both."""
        seen = set()
        for form, first, second, given in told_cases():
            common = h.grid(t.common_rows(*given))
            some, others = self.beside(form, first, common), self.beside(form, second, common)
            seen.add((bool(common), bool(some and others)))
            found = t.product_near(*given, 10 ** 6)
            if some and others:
                self.assertTrue(h.is_near(*greatest_parts(form, some, others), found, 10 ** 6))
            else:
                self.assertEqual(found, (0, True))
        self.assertEqual(seen, {(False, True), (True, True), (True, False)})

    def beside(self, form, rows, common):
        """Free rows, those of the span of ROWS without energy product with the COMMON ones."""
        if not common:
            return rows
        numbers = h.nulls(h.product(h.product(common, form), h.turned(rows)), len(rows))
        return [h.sum_of_rows(some, rows, len(form)) for some in numbers]


class Edges(unittest.TestCase):
    def test_all_rows(self):
        for draw, form, first, _, table in cases():
            full = h.table(h.drawn_free(draw, len(form), len(form)))
            for spans in ((h.table(first), full), (full, h.table(first)), (full, full)):
                self.assertEqual(t.product_near(table, *spans, 10), (0, True))
                self.assertIs(t.product_up_to(table, *spans, (0, 1)), True)
                self.assertIsNone(t.product_pair(table, *spans, (0, 1)))

    def test_one_row(self):
        table, rows = (((3, 1),),), (((-2, 5),),)
        self.assertEqual(t.product_near(table, rows, rows, 1), (0, True))
        self.assertIs(t.product_up_to(table, rows, rows, (0, 1)), True)
        self.assertIsNone(t.product_pair(table, rows, rows, (0, 1)))
        self.assertEqual(len(t.common_rows(table, rows, rows)), 1)

    def test_product_nought(self):
        """Exactly if all rows apart from the one have the energy product 0 with all apart from the other."""
        told = set()
        for form, first, second, given in told_cases():
            met = [h.dot(x, h.times(form, y)) for x in apart(form, first) for y in apart(form, second)]
            nothing = not any(met)
            self.assertIs(t.product_up_to(*given, (0, 1)), nothing)
            self.assertEqual(t.product_near(*given, 3) == (0, True), nothing)
            self.assertEqual(t.product_pair(*given, (0, 1)) is None, nothing)
            told.add(nothing)
        self.assertEqual(told, {True, False})

    def test_product_nought_of_spans_that_are_apart(self):
        for draw, form, first, _, table in cases():
            others = apart(form, first)
            if others:
                for spans in ((h.table(first), h.table(others)), (h.table(others), h.table(first))):
                    self.assertEqual(t.product_near(table, *spans, 10 ** 6), (0, True))
                    self.assertIs(t.product_up_to(table, *spans, (0, 1)), True)
                    self.assertIsNone(t.product_pair(table, *spans, (0, 1)))
                    self.assertEqual(t.common_rows(table, *spans), ())


class Ratios(unittest.TestCase):
    def test_the_team_of_both(self):
        for form, first, second, given in told_cases():
            team = together.exact_team(given[0], given[1:])
            if len(first) == len(second) == len(form):
                self.assertEqual(together.least_ratio_near(given[0], team, 5), (10, True))
                self.assertEqual(together.greatest_ratio_near(given[0], team, 5), (10, True))
                continue
            back, summed = h.inverse(form), h.summed(team)
            for x in (Fraction(1), Fraction(1, 2), Fraction(1, 100)) + self.near(form, back, summed):
                has = h.is_from_nought(h.combined(1, summed, -x, back))
                square = (1 - x) ** 2
                self.assertIs(has_product(form, first, second, square), has)
                self.assertIs(t.product_up_to(*given, h.pair(square)), has)
                self.assertIs(together.has_ratios_from(given[0], team, h.pair(x)), has)

    def near(self, form, back, summed):
        """Numbers just below and just above the least ratio."""
        k = max(k for k in range(1, 64) if k == 1 or h.is_from_nought(h.combined(1, summed, -Fraction(k, 64), back)))
        return (Fraction(k, 64), Fraction(k + 1, 64))


class Common(unittest.TestCase):
    def any_spans(self):
        """Together all rows or not."""
        for draw, form, first, second, table in cases():
            yield len(form), first, second, table
            for _ in range(2):
                spans = [h.drawn_free(draw, draw.randint(1, len(form)), len(form)) for _ in range(2)]
                yield len(form), spans[0], spans[1], table
                yield len(form), spans[0], spans[0][:1], table

    def test_common_rows(self):
        told = set()
        for many, first, second, table in self.any_spans():
            found = t.common_rows(table, h.table(first), h.table(second))
            self.assertTrue(h.is_rows(found, many))
            rows = h.grid(found)
            self.assertTrue(h.are_free(rows))
            self.assertEqual(len(rows), len(first) + len(second) - h.rank(first + second))
            for span in (first, second):
                self.assertEqual(h.rank(span + rows), len(span))
            self.assertEqual(t.common_rows(second=h.table(second), first=h.table(first), table=table), found)
            told.add((found == (), h.rank(first + second) == many))
        self.assertEqual(told, {(empty, whole) for empty in (True, False) for whole in (True, False)})

    def test_edges(self):
        for many in MANIES:
            units = h.table(h.units(many))
            for count in range(1, many + 1):
                self.assertEqual(len(t.common_rows(units, units, units[:count])), count)
                self.assertEqual(len(t.common_rows(units, units[:count], units[:count])), count)
                self.assertEqual(len(t.common_rows(units, units[:count], units[count - 1:])), 1)
                if count < many:
                    self.assertEqual(t.common_rows(units, units[:count], units[count:]), ())


if __name__ == "__main__":
    unittest.main()
