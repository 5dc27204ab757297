import unittest
from fractions import Fraction

import helpers as h
from splitcosts import tables as t

MANIES = (1, 2, 3, 4, 5)


def cases():
    """Forms of 1 to 5 rows, of all kinds of signs."""
    for many in MANIES:
        draw = h.draws(50 + many)
        for form in h.drawn_forms(draw, many):
            yield draw, form, h.table(form)


def less(form):
    return [[-x for x in row] for row in form]


class Worths(unittest.TestCase):
    def test_worth(self):
        for draw, form, told in cases():
            for row in [h.drawn_row(draw, len(form)) for _ in range(4)] + h.units(len(form)):
                found = t.worth(told, h.pairs(row))
                self.assertEqual(found, h.pair(h.worth(form, row)))
                self.assertTrue(h.is_fraction(found))
                self.assertEqual(t.worth(row=h.pairs(row), form=told), found)

    def test_worth_at_noughts(self):
        for _, form, told in cases():
            self.assertEqual(t.worth(told, ((0, 1),) * len(form)), (0, 1))

    def test_by_hand(self):
        form = h.table(((1, -2), (-2, 3)))
        told = [t.worth(form, h.pairs(row)) for row in ((1, 0), (0, 1), (1, 1), (2, -1), (Fraction(1, 2), 0))]
        self.assertEqual(told, [(1, 1), (3, 1), (0, 1), (15, 1), (1, 4)])
        self.assertEqual(t.worth((((-2, 3),),), ((3, 2),)), (-3, 2))

    def test_energy_product(self):
        for many in MANIES:
            draw = h.draws(many)
            for _ in range(5):
                form = h.drawn_positive(draw, many)
                row, other = h.drawn_row(draw, many), h.drawn_row(draw, many)
                told, first, second = h.table(form), h.pairs(row), h.pairs(other)
                found = t.energy_product(told, first, second)
                self.assertEqual(found, h.pair(h.dot(row, h.times(form, other))))
                self.assertEqual(t.energy_product(told, second, first), found)
                self.assertEqual(t.energy_product(other=second, row=first, table=told), found)
                self.assertEqual(t.energy_product(told, first, first), t.worth(told, first))
                self.assertEqual(t.energy_product(told, first, ((0, 1),) * many), (0, 1))


class Squares(unittest.TestCase):
    def test_they_add_up_to_the_worth_at_each_row(self):
        for draw, form, told in cases():
            found = t.squares(told)
            self.assertEqual((type(found), len(found)), (tuple, len(form)))
            for part in found:
                self.assertEqual((type(part), len(part)), (tuple, 2))
                self.assertTrue(h.is_fraction(part[0]) and h.is_row(part[1], len(form)))
            for _ in range(5):
                row = h.drawn_row(draw, len(form))
                added = sum(h.number(part) * h.dot(h.numbers(line), row) ** 2 for part, line in found)
                self.assertEqual(added, h.worth(form, row))
            self.assertTrue(h.are_free([h.numbers(line) for _, line in found]))
            self.assertEqual(t.squares(form=told), found)

    def test_signs_are_those_of_the_squares(self):
        for _, form, told in cases():
            parts = [part[0] for part, _ in t.squares(told)]
            signs = (sum(x > 0 for x in parts), sum(x == 0 for x in parts), sum(x < 0 for x in parts))
            self.assertEqual(t.signs(told), signs)

    def test_signs_are_those_of_another_way_of_clearing(self):
        told = set()
        for draw, form, given in cases():
            above, below = h.signs_below(less(form)), h.signs_below(form)
            signs = t.signs(given)
            self.assertEqual(signs, (above, len(form) - above - below, below))
            self.assertEqual(t.signs(form=given), signs)
            rows = h.drawn_free(draw, len(form), len(form))
            self.assertEqual(t.signs(h.table(h.on(form, rows))), signs)
            told.add((len(form), above == len(form), below == 0))
        for many in MANIES:
            self.assertLessEqual({(many, True, True), (many, False, True), (many, False, False)}, told)

    def test_edges(self):
        for many in MANIES:
            nothing = ((((0, 1),) * many),) * many
            self.assertEqual(t.signs(nothing), (0, many, 0))
            self.assertEqual([part for part, _ in t.squares(nothing)], [(0, 1)] * many)
            self.assertEqual(t.signs(h.table(h.units(many))), (many, 0, 0))
            self.assertEqual(t.signs(h.table(less(h.units(many)))), (0, 0, many))
            ones = [[Fraction(1)] * many for _ in range(many)]
            self.assertEqual(t.signs(h.table(ones)), (1, many - 1, 0))
            self.assertEqual(t.signs(h.table(h.combined(1, ones, -1, h.units(many)))), (many > 1, many == 1, many - 1))
        self.assertEqual(t.signs(h.table(((0, 1), (1, 0)))), (1, 0, 1))
        self.assertEqual(t.signs(h.table(((0, 1, 1), (1, 0, 1), (1, 1, 0)))), (1, 0, 2))
        self.assertEqual(t.signs(h.table(((0, 0, 1), (0, 0, 0), (1, 0, 0)))), (1, 1, 1))
        self.assertEqual([t.signs((((x, 7),),)) for x in (3, -3)] + [t.signs((((0, 1),),))], [(1, 0, 0), (0, 0, 1), (0, 1, 0)])

    def test_just_positive_and_just_not(self):
        near = Fraction(1, 10 ** 30)
        for step, signs in ((near, (2, 0, 0)), (0, (1, 1, 0)), (-near, (1, 0, 1))):
            form = h.table(((1, 1), (1, 1 + step)))
            self.assertEqual(t.signs(form), signs)
            self.assertEqual(t.low_row(form) is None, step > 0)


class LowRows(unittest.TestCase):
    def test_low_row(self):
        told = set()
        for draw, form, given in cases():
            found = t.low_row(given)
            self.assertEqual(found is None, h.is_positive(form))
            self.assertEqual(t.low_row(form=given), found)
            told.add((len(form), found is None))
            if found is not None:
                self.assertTrue(h.is_row(found, len(form)))
                self.assertTrue(any(h.numbers(found)))
                self.assertLessEqual(h.worth(form, h.numbers(found)), 0)
        self.assertEqual(told, {(many, none) for many in MANIES for none in (True, False)})

    def test_forms_from_nought_on(self):
        for many in MANIES[1:]:
            draw = h.draws(many)
            rows = h.drawn_free(draw, many - 1, many)
            form = h.product(h.turned(rows), rows)
            found = h.numbers(t.low_row(h.table(form)))
            self.assertTrue(any(found))
            self.assertEqual(h.times(form, found), [0] * many)

    def test_one_row(self):
        self.assertIsNone(t.low_row((((1, 10 ** 30),),)))
        for number in ((0, 1), (-1, 10 ** 30)):
            self.assertNotEqual(t.low_row(((number,),))[0][0], 0)


if __name__ == "__main__":
    unittest.main()
