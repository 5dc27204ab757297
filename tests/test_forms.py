"""Squares, spans and near numbers, of which the interface makes use, at places that drawn tables seldom reach."""

import unittest
from fractions import Fraction

import helpers as h
from splitcosts import forms, nearness, spans


def drawn_forms():
    """Forms of 0 to 5 rows: with 0 along, of few signs, of small numbers."""
    for many in range(6):
        draw = h.draws(many)
        for _ in range(25):
            rows = [[Fraction(draw.randint(-1, 1)) for _ in range(many)] for _ in range(many)]
            form = h.combined(1, rows, 1, h.turned(rows)) if many else []
            yield form
            yield [[Fraction(0) if at == place else x for place, x in enumerate(row)] for at, row in enumerate(form)]
            thin = [h.drawn_fraction(draw) for _ in range(many)]
            yield [[x * y for y in thin] for x in thin]
            yield [[Fraction(0)] * many for _ in range(many)]


class Squares(unittest.TestCase):
    def test_squares_add_up_to_the_form(self):
        for form in drawn_forms():
            squares = forms.squares_of(h.table(form))
            self.assertEqual(len(squares), len(form))
            added = [[Fraction(0)] * len(form) for _ in form]
            for part, row in squares:
                self.assertTrue(h.is_fraction(part) and h.is_row(row, len(form)))
                row = h.numbers(row)
                added = h.combined(1, added, h.number(part), [[x * y for y in row] for x in row])
            self.assertEqual(added, form)
            self.assertTrue(h.are_free([h.numbers(row) for _, row in squares]))

    def test_signs(self):
        for form in drawn_forms():
            less = [[-x for x in row] for row in form]
            above, nought, below = forms.signs_of(h.table(form))
            self.assertEqual((above, below), (h.signs_below(less), h.signs_below(form)))
            self.assertEqual(above + nought + below, len(form))
            self.assertIs(forms.is_positive(h.table(form)), h.is_positive(form))
            self.assertIs(forms.is_from_nought(h.table(form)), h.is_from_nought(form))

    def test_rows_below(self):
        for form in drawn_forms():
            rows = h.grid(forms.rows_below(h.table(form)))
            self.assertEqual(len(rows), h.signs_below(form))
            self.assertTrue(h.are_free(rows))
            self.assertTrue(h.is_positive([[-x for x in row] for row in h.on(form, rows)]))

    def test_low_rows(self):
        for form in drawn_forms():
            rows = h.grid(forms.low_rows(h.table(form)))
            self.assertEqual(rows == [], h.is_positive(form))
            for row in rows:
                self.assertTrue(any(row))
                self.assertLessEqual(h.worth(form, row), 0)


class Spans(unittest.TestCase):
    def test_noughts_basis(self):
        draw = h.draws(5)
        for many in range(1, 6):
            for count in range(many + 1):
                rows = h.drawn_free(draw, count, many)
                basis = h.grid(spans.noughts_basis(h.table(rows + rows[:1]), many))
                self.assertEqual(len(basis), many - count)
                self.assertTrue(h.are_free(basis))
                for row in basis:
                    self.assertFalse(any(h.times(rows, row)))

    def test_free_places(self):
        draw = h.draws(7)
        for many in range(1, 6):
            rows = [h.drawn_row(draw, many, 1) for _ in range(2 * many)] + [[Fraction(0)] * many]
            draw.shuffle(rows)
            free = [at for at in range(len(rows)) if h.rank(rows[:at + 1]) > h.rank(rows[:at])]
            self.assertEqual(spans.free_places(h.table(rows)), free)

    def test_inverse(self):
        draw = h.draws(6)
        for many in range(1, 6):
            for _ in range(10):
                rows = [[Fraction(draw.randint(-1, 1)) for _ in range(many)] for _ in range(many)]
                if h.determinant(rows):
                    self.assertEqual(h.grid(spans.inverse(h.table(rows))), h.inverse(rows))


class Near(unittest.TestCase):
    def test_roots_that_are_fractions(self):
        parts = (Fraction(0), Fraction(1, 3), Fraction(1, 3), Fraction(5, 2), Fraction(10 ** 30))
        table = h.table([[x if at == place else 0 for place in range(5)] for at, x in enumerate(parts)])
        for many in (1, 2, 3, 4, 6, 10 ** 6):
            for at, part in enumerate(parts):
                just = part * many
                self.assertEqual(nearness.near_root(table, at, many), (just.numerator // just.denominator, just.denominator == 1))

    def test_greatest_holding(self):
        for greatest in list(range(70)) + [10 ** 9 - 1, 10 ** 9, 2 ** 40 - 1, 2 ** 40, 2 ** 40 + 1]:
            self.assertEqual(nearness.greatest_holding(lambda k: k <= greatest), greatest)


if __name__ == "__main__":
    unittest.main()
