import unittest
from fractions import Fraction
from itertools import combinations

import helpers as h
from splitcosts import aids, factors, methods
from splitcosts import inner as i

MANIES = (2, 3, 4, 5)
CHAIN = h.table(((2, -1, 0), (-1, 2, -1), (0, -1, 2)))


def lots(many):
    """All lots of inner indexes: one index, all but one among them."""
    return [lot for count in range(1, many) for lot in combinations(range(many), count)]


def cases():
    for many in MANIES:
        draw = h.draws(many)
        form = h.drawn_positive(draw, many)
        for lot in lots(many):
            yield draw, form, lot, h.table(form)


def outer_of(form, lot):
    return [at for at in range(len(form)) if at not in lot]


def part(form, places, columns):
    return [[form[at][place] for place in columns] for at in places]


def solved(form, lot):
    """The harmonic rows, each by solving for its inner numbers."""
    found = []
    for index in outer_of(form, lot):
        numbers = h.times(h.inverse(part(form, lot, lot)), [-form[at][index] for at in lot])
        row = h.units(len(form))[index]
        for at, number in zip(lot, numbers):
            row[at] = number
        found.append(row)
    return found


def outer_by_parts(form, lot):
    """A_OO - A_OI A_II^-1 A_IO."""
    outer = outer_of(form, lot)
    taken = h.product(part(form, outer, lot), h.product(h.inverse(part(form, lot, lot)), part(form, lot, outer)))
    return h.combined(1, part(form, outer, outer), -1, taken)


def both_aids(form, lot, coarse):
    ahead = (h.exact_aid(form, [h.units(len(form))[at] for at in lot]),)
    return ahead + ((h.exact_aid(form, coarse),) if coarse else ())


class Harmonic(unittest.TestCase):
    def test_harmonic_rows(self):
        for _, form, lot, table in cases():
            found = i.harmonic_rows(table, lot)
            self.assertEqual(found, h.table(solved(form, lot)))
            self.assertEqual(i.harmonic_rows(inner=lot, table=table), found)
            for index, row in zip(outer_of(form, lot), h.grid(found)):
                self.assertEqual([row[at] for at in outer_of(form, lot)], [at == index for at in outer_of(form, lot)])
                self.assertFalse(any(h.times(form, row)[at] for at in lot))

    def test_outer_table(self):
        for _, form, lot, table in cases():
            found = i.outer_table(table, lot)
            self.assertEqual(found, h.table(h.on(form, solved(form, lot))))
            self.assertEqual(found, h.table(outer_by_parts(form, lot)))
            self.assertEqual(i.outer_table(inner=lot, table=table), found)
            self.assertTrue(h.is_positive(h.grid(found)))
            outer = outer_of(form, lot)
            self.assertEqual(h.inverse(h.grid(found)), part(h.inverse(form), outer, outer))

    def test_the_energy_in_two_parts(self):
        for draw, form, lot, table in cases():
            error, outer = h.drawn_row(draw, len(form)), outer_of(form, lot)
            told = [error[at] for at in outer]
            added = h.sum_of_rows(told, h.grid(i.harmonic_rows(table, lot)), len(form))
            rest = h.less(error, added)
            self.assertFalse(any(rest[at] for at in outer))
            energy = h.worth(h.grid(i.outer_table(table, lot)), told)
            energy += h.worth(part(form, lot, lot), [rest[at] for at in lot])
            self.assertEqual(energy, h.worth(form, error))

    def test_inner_lots_one_behind_another(self):
        for _, form, lot, table in cases():
            for count in range(1, len(lot)):
                for first in combinations(lot, count):
                    left = outer_of(form, first)
                    behind = tuple(left.index(at) for at in lot if at not in first)
                    self.assertEqual(i.outer_table(i.outer_table(table, first), behind), i.outer_table(table, lot))

    def test_lots_that_do_not_touch_add_up(self):
        """What they take off the energy products of the outer unit rows."""
        seen = 0
        for seed in range(12):
            draw = h.draws(seed)
            form = [[Fraction(6) if at == place else Fraction(0) for place in range(5)] for at in range(5)]
            for at, beside in combinations(range(5), 2):
                form[at][beside] = form[beside][at] = Fraction(draw.choice((0, 0, 1, -1)))
            for first, second in combinations(lots(5), 2):
                if set(first) & set(second) or len(first + second) > 4 or any(form[at][k] for at in first for k in second):
                    continue
                seen += 1
                lot = tuple(sorted(first + second))
                outer = outer_of(form, lot)
                found = part(form, outer, outer)
                for some in (first, second):
                    rest = outer_of(form, some)
                    where = [rest.index(at) for at in outer]
                    own = part(h.grid(i.outer_table(h.table(form), some)), where, where)
                    found = h.combined(1, found, -1, h.combined(1, part(form, outer, outer), -1, own))
                self.assertEqual(i.outer_table(h.table(form), lot), h.table(found))
        self.assertGreater(seen, 100)

    def test_by_hand(self):
        self.assertEqual(i.harmonic_rows(CHAIN, (1,)), h.table(((1, Fraction(1, 2), 0), (0, Fraction(1, 2), 1))))
        self.assertEqual(i.harmonic_rows(CHAIN, (0, 1)), h.table(((Fraction(1, 3), Fraction(2, 3), 1),)))
        self.assertEqual(i.outer_table(CHAIN, (0, 1)), (((4, 3),),))
        self.assertEqual(i.harmonic_rows(CHAIN, (0,)), h.table(((Fraction(1, 2), 1, 0), (0, 0, 1))))
        self.assertEqual(i.outer_table(CHAIN, (0,)), h.table(((Fraction(3, 2), -1), (-1, 2))))


class Extended(unittest.TestCase):
    def test_it_has_the_least_energy(self):
        for draw, form, lot, table in cases():
            outer = outer_of(form, lot)
            for numbers in ([h.drawn_fraction(draw) for _ in outer], h.units(len(outer))[-1]):
                found = i.extended(table, lot, h.pairs(numbers))
                self.assertEqual(i.extended(numbers=h.pairs(numbers), inner=lot, table=table), found)
                self.assertTrue(h.is_row(found, len(form)))
                row = h.numbers(found)
                self.assertEqual([row[at] for at in outer], numbers)
                self.assertEqual(h.worth(form, row), h.worth(outer_by_parts(form, lot), numbers))
                for _ in range(3):
                    change = h.drawn_row(draw, len(lot))
                    for factor in (1, -1, Fraction(1, 1000)):
                        other = list(row)
                        for at, number in zip(lot, change):
                            other[at] += factor * number
                        self.assertGreater(h.worth(form, other), h.worth(form, row))

    def test_unit_numbers_tell_the_harmonic_rows(self):
        for _, form, lot, table in cases():
            units = h.table(h.units(len(form) - len(lot)))
            self.assertEqual(tuple(i.extended(table, lot, row) for row in units), i.harmonic_rows(table, lot))

    def test_noughts(self):
        for _, form, lot, table in cases():
            self.assertEqual(i.extended(table, lot, ((0, 1),) * (len(form) - len(lot))), ((0, 1),) * len(form))


class Ends(unittest.TestCase):
    def ends(self, form, lot, coarse, table):
        found = i.ends_with(table, lot, h.table(coarse))
        self.assertIs(found, not any(map(any, h.error_table(form, both_aids(form, lot, coarse)))))
        self.assertIs(i.ends_with(coarse=h.table(coarse), inner=lot, table=table), found)
        return found

    def test_exactly_if_the_harmonic_rows_are_in_the_span(self):
        for draw, form, lot, table in cases():
            rows, units = solved(form, lot), h.units(len(form))
            change = h.drawn_free(draw, len(rows), len(rows))
            mixed = h.product(change, rows)
            self.assertIs(self.ends(form, lot, rows, table), True)
            self.assertIs(self.ends(form, lot, mixed, table), True)
            for more in (units[lot[0]], [x + y for x, y in zip(units[lot[-1]], rows[0])]):
                self.assertIs(self.ends(form, lot, mixed + [more], table), True)
                self.assertIs(self.ends(form, lot, [more] + rows, table), True)
            self.assertIs(self.ends(form, lot, mixed[1:], table), False)
            self.assertIs(self.ends(form, lot, rows[:-1] + [units[lot[0]]], table), False)
            near = [[x + Fraction(at == lot[0], 10 ** 9) for at, x in enumerate(row)] for row in rows]
            self.assertIs(self.ends(form, lot, near, table), False)

    def test_drawn_rows(self):
        told = set()
        for draw, form, lot, table in cases():
            for count in range(len(form) + 1):
                told.add(self.ends(form, lot, h.drawn_free(draw, count, len(form)), table))
        self.assertEqual(told, {True, False})

    def test_no_rows_and_all_rows(self):
        for draw, form, lot, table in cases():
            self.assertIs(self.ends(form, lot, [], table), False)
            self.assertIs(self.ends(form, lot, h.drawn_free(draw, len(form), len(form)), table), True)

    def test_the_harmonic_rows_end_at_once_in_either_order(self):
        for _, form, lot, table in cases():
            method = aids.lot_aids(table, (lot,)) + (aids.exact_aid(table, i.harmonic_rows(table, lot)),)
            for some in (method, method[::-1]):
                self.assertIs(factors.ends_at_once(table, some), True)
                self.assertEqual(methods.error_table(table, some), (((0, 1),) * len(form),) * len(form))


if __name__ == "__main__":
    unittest.main()
