import unittest
from fractions import Fraction

import helpers as h
from splitcosts import aids, factors as f, methods, splits

MANIES = (1, 2, 3, 4, 5)
LINK = h.table(((2, -1), (-1, 2)))
SHARES = (Fraction(0), Fraction(1, 3), Fraction(9, 10), Fraction(999, 1000))


def cases():
    """Whole methods with what they leave of errors, worked out aid by aid."""
    for draw, form, table, method in h.whole_methods(7):
        yield draw, form, table, method, h.error_table(form, method)


def shares_about(table, method):
    """Shares of all kinds, and some just below and just above the factor."""
    k, _ = f.factor_near(table, method, 1000)
    near = [Fraction(x, 1000) for x in (k - 1, k, k + 1) if 0 <= x < 1000]
    return sorted(set(near + list(SHARES)))


def left_of(form, method, error):
    return h.worth(form, h.method_step(form, method, error))


class Shares(unittest.TestCase):
    def test_has_factor(self):
        told = set()
        for draw, form, table, method, errors in cases():
            for share in shares_about(table, method):
                found = f.has_factor(table, method, h.pair(share))
                self.assertIs(found, h.has_factor(form, errors, share))
                self.assertIs(f.has_factor(most=h.pair(share), method=method, table=table), found)
                told.add((len(form), found))
                error = h.drawn_row(draw, len(form))
                self.assertLessEqual(found, left_of(form, method, error) <= share * h.worth(form, error))
        self.assertEqual(told, {(many, found) for many in MANIES for found in (True, False)})

    def test_by_splits(self):
        """Exactly if each row has a split of at most 1 / (1 - q) times its energy."""
        for draw, form, table, method, _ in cases():
            back = h.inverse(h.mean(form, method))
            for share in shares_about(table, method):
                found = f.has_factor(table, method, h.pair(share))
                room = h.combined(1 / (1 - share), form, -1, back)
                self.assertIs(found, h.is_from_nought(room))
                if found:
                    row = h.drawn_row(draw, len(form))
                    least = h.number(splits.least_cost(table, method, h.pairs(row)))
                    self.assertLessEqual(least * (1 - share), h.worth(form, row))
                else:
                    # Where the energy of e falls by less than 1 - q times what it is, e itself costs more to split.
                    row = f.beyond(table, method, h.pair(share))
                    least = h.number(splits.least_cost(table, method, row))
                    self.assertGreater(least * (1 - share), h.worth(form, h.numbers(row)))

    def test_beyond(self):
        for draw, form, table, method, errors in cases():
            for share in shares_about(table, method):
                found = f.beyond(table, method, h.pair(share))
                self.assertEqual(found is None, h.has_factor(form, errors, share))
                self.assertEqual(f.beyond(most=h.pair(share), method=method, table=table), found)
                if found is not None:
                    self.assertTrue(h.is_row(found, len(form)))
                    error = h.numbers(found)
                    self.assertGreater(left_of(form, method, error), share * h.worth(form, error))

    def test_just_the_factor(self):
        """By hand: the points of LINK have 1 / 4."""
        points = aids.point_aids(LINK)
        for most, has in (((1, 4), True), ((249, 1000), False), ((251, 1000), True), ((0, 1), False),
                          ((10 ** 399, 4 * 10 ** 399 + 1), False), ((10 ** 399 + 1, 4 * 10 ** 399 + 3), True),
                          ((10 ** 399, 10 ** 399 + 1), True)):
            self.assertIs(f.has_factor(LINK, points, most), has)
            self.assertEqual(f.beyond(LINK, points, most) is None, has)

    def test_a_share_of_nought(self):
        told = set()
        for draw, form, table, method, errors in cases():
            found = f.has_factor(table, method, (0, 1))
            self.assertIs(found, not any(map(any, errors)))
            self.assertEqual(f.beyond(table, method, (0, 1)) is None, found)
            told.add(found)
        self.assertIn(False, told)


class Near(unittest.TestCase):
    def test_factor_near(self):
        for _, form, table, method, errors in cases():
            left = h.on(form, h.turned(errors))
            for many in (1, 7, 1000, 10 ** 6):
                found = f.factor_near(table, method, many)
                self.assertTrue(h.is_near(form, left, found, many))
                self.assertEqual(f.factor_near(many=many, method=method, table=table), found)

    def test_just_exactly_if_the_form_has_a_square_at_nought(self):
        for _, form, table, method, errors in cases():
            for many in (1, 4, 1000):
                k, is_just = f.factor_near(table, method, many)
                here = h.combined(Fraction(k, many), form, -1, h.on(form, h.turned(errors)))
                self.assertEqual(is_just, h.is_from_nought(here) and h.determinant(here) == 0)

    def test_a_fraction(self):
        points = aids.point_aids(LINK)
        told = [f.factor_near(LINK, points, many) for many in (1, 3, 4, 8, 10 ** 6, 10 ** 6 - 1)]
        self.assertEqual(told, [(0, False), (0, False), (1, True), (2, True), (250000, True), (249999, False)])

    def test_no_fraction(self):
        """E is ((1/2, 1/2), (0, 1/2)) for the units: the greatest root of E'E is (3 + 5 ^ 1/2) / 8."""
        table, smoother = h.table(h.units(2)), h.table(((2, 2), (0, 2)))
        method = (aids.smoother_aid(table, smoother),)
        self.assertEqual(methods.error_table(table, method), h.table(((Fraction(1, 2),) * 2, (0, Fraction(1, 2)))))
        self.assertEqual(f.factor_near(table, method, 10 ** 6), (654508, False))
        for many in (1, 2, 8, 999999):
            self.assertIs(f.factor_near(table, method, many)[1], False)
        self.assertIs(f.has_factor(table, method, (654508, 10 ** 6 + 1)), False)
        self.assertIs(f.has_factor(table, method, (654509, 10 ** 6)), True)

    def test_one_row(self):
        table, method = (((2, 1),),), (((((2, 1),),), (((5, 1),),)),)
        # What is left is - 3 / 5.
        self.assertEqual([f.factor_near(table, method, many) for many in (1, 25, 10)], [(0, False), (9, True), (3, False)])
        self.assertEqual([f.has_factor(table, method, most) for most in ((9, 25), (8, 25))], [True, False])
        self.assertEqual(f.factor_near(table, method * 2, 625), (81, True))


class TurnedAbout(unittest.TestCase):
    def test_turned_about_it_has_the_same_factor(self):
        for _, form, table, method, _ in cases():
            back = methods.turned(table, method)
            for many in (10, 10 ** 6):
                self.assertEqual(f.factor_near(table, back, many), f.factor_near(table, method, many))
            for share in shares_about(table, method):
                self.assertIs(f.has_factor(table, back, h.pair(share)), f.has_factor(table, method, h.pair(share)))

    def test_there_and_back_it_has_its_square(self):
        seen = 0
        for _, form, table, method, errors in cases():
            if len(method) > 4:
                continue
            seen += 1
            both = methods.there_and_back(table, method)
            for share in shares_about(table, method):
                has = f.has_factor(table, both, h.pair(share * share))
                self.assertIs(has, h.has_factor(form, errors, share))
            k, is_just = f.factor_near(table, method, 100)
            square, is_just_square = f.factor_near(table, both, 100 * 100)
            self.assertTrue(k * k <= square < (k + 1) * (k + 1))
            self.assertEqual(is_just, (square, is_just_square) == (k * k, True))
        self.assertGreater(seen, 8)


class EndsAtOnce(unittest.TestCase):
    def test_exactly_if_the_error_table_is_noughts(self):
        told = set()
        for draw, form, table, method, errors in cases():
            full = h.exact_aid(form, h.drawn_free(draw, len(form), len(form)))
            for some, ends in ((method, not any(map(any, errors))), ((method + (full,))[-8:], True), ((full,) + method[:7], True),
                               ((full,), True), (method[:3] + (full,) + method[3:6], True)):
                found = f.ends_at_once(table, some)
                self.assertIs(found, ends)
                self.assertIs(f.ends_at_once(method=some, table=table), found)
                self.assertIs(f.has_factor(table, some, (0, 1)), found)
                self.assertEqual(f.factor_near(table, some, 9) == (0, True), found)
                self.assertEqual(f.beyond(table, some, (0, 1)) is None, found)
                told.add(found)
        self.assertEqual(told, {True, False})

    def test_by_hand(self):
        table = h.table(h.units(3))
        self.assertIs(f.ends_at_once(table, aids.point_aids(table)), True)
        chain = h.table(((2, -1, 0), (-1, 2, -1), (0, -1, 2)))
        self.assertIs(f.ends_at_once(chain, aids.point_aids(chain)), False)
        self.assertIs(f.ends_at_once(chain, aids.lot_aids(chain, ((0, 1, 2),))), True)
        # The harmonic row of the middle, and both ends.
        middle = aids.exact_aid(chain, (((1, 2), (1, 1), (1, 2)),))
        for method in ((middle,) + aids.lot_aids(chain, ((0, 2),)), aids.lot_aids(chain, ((0,), (2,))) + (middle,)):
            self.assertIs(f.ends_at_once(chain, method), True)


class MoreAids(unittest.TestCase):
    def test_an_exact_aid_more_at_either_end_is_never_worse(self):
        for draw, form, table, method, _ in cases():
            aid = h.exact_aid(form, h.drawn_free(draw, draw.randint(1, len(form)), len(form)))
            some = method[:7] if h.is_whole(h.all_rows(method[:7]), len(form)) else None
            if some is None:
                continue
            least = f.factor_near(table, some, 10 ** 6)
            for longer in (some + (aid,), (aid,) + some):
                more = f.factor_near(table, longer, 10 ** 6)
                self.assertLessEqual(more[0], least[0])
                for share in shares_about(table, some):
                    self.assertLessEqual(f.has_factor(table, some, h.pair(share)), f.has_factor(table, longer, h.pair(share)))

    def test_one_between_may_be_worse(self):
        table = h.table(h.units(2))
        first, second, between = [aids.exact_aid(table, h.table([row])) for row in ((0, 1), (1, 0), (1, -1))]
        self.assertIs(f.ends_at_once(table, (first, second)), True)
        self.assertEqual(f.factor_near(table, (first, between, second), 4), (1, True))
        self.assertIs(f.ends_at_once(table, (first, between, second)), False)

    def test_the_same_exact_aid_twice_is_as_good_as_once(self):
        for draw, form, table, method, _ in cases():
            if len(method) > 4:
                continue
            aid = h.exact_aid(form, h.drawn_free(draw, draw.randint(1, len(form)), len(form)))
            for at in range(len(method) + 1):
                once, twice = [method[:at] + (aid,) * many + method[at:] for many in (1, 2)]
                self.assertEqual(f.factor_near(table, twice, 1000), f.factor_near(table, once, 1000))
                self.assertEqual(f.beyond(table, twice, (0, 1)), f.beyond(table, once, (0, 1)))

    def test_eight_aids(self):
        points = aids.point_aids(LINK)
        self.assertEqual(f.factor_near(LINK, points * 4, 4 ** 9), (4 * 4, True))
        self.assertEqual(f.factor_near(LINK, points[:1] * 7 + points[1:], 4), (1, True))


if __name__ == "__main__":
    unittest.main()
