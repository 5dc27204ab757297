import unittest
from fractions import Fraction

import helpers as h
from splitcosts import aids, coarse, errors, factors, methods
from splitcosts import levels as v
from wrongs import LINK, WRONG

MANIES = (1, 2, 3, 4, 5)
FIRM = h.table(((2, 1), (1, 2)))
LOWER, UPPER = h.table(((2, 0), (1, 2))), h.table(((2, 1), (0, 2)))


def drawn_ladder(draw, form, sizes):
    """Pairs of a drawn smoother and as many drawn free rows as SIZES tell."""
    found = []
    for size in sizes:
        rows = h.drawn_free(draw, size, len(form))
        found.append((h.table(h.drawn_smoother(draw, form)), h.table(rows)))
        form = h.on(form, rows)
    return tuple(found)


def cases():
    """Tables of 1 to 5 rows with ladders of one and of two pairs, with all rows and with some."""
    for many in MANIES:
        for seed, sizes in enumerate(((1,), (many,), (max(many - 1, 1), 1), (many, max(many - 1, 1)), ((many + 1) // 2,) * 2)):
            draw = h.draws(50 * many + seed)
            form = h.drawn_positive(draw, many, 2)
            yield draw, form, h.table(form), drawn_ladder(draw, form, sizes)


def smoothing(form, smoother):
    return h.two_grid_errors(form, smoother, [])


def round_errors(form, ladder, times):
    """What a round does to errors: below its smoothers it solves, or takes as many lower rounds, from nothing on."""
    smoother, rows = [h.grid(part) for part in ladder[0]]
    below = h.on(form, rows)
    answer = h.inverse(below)
    if len(ladder) == 2:
        lower = left = round_errors(below, ladder[1:], 1)
        for _ in range(times - 1):
            left = h.product(lower, left)
        answer = h.product(h.combined(1, h.units(len(below)), -1, left), answer)
    step = h.product(h.turned(rows), h.product(answer, h.product(rows, form)))
    middle = h.combined(1, h.units(len(form)), -1, step)
    return h.product(smoothing(form, h.turned(smoother)), h.product(middle, smoothing(form, smoother)))


def smoothing_aid(solver):
    return (h.table(h.units(len(solver))), solver)


def turned(solver):
    return tuple(zip(*solver))


def aids_between(form, ladder):
    """The aids of the second pair, times the first rows: its smoother, its exact aid, its smoother turned over."""
    rows = h.grid(ladder[0][1])
    below = h.on(form, rows)
    solver, own = ladder[1]
    ends = [(h.table(rows), solver), (h.table(rows), turned(solver))]
    return (ends[0], (h.table(h.product(h.grid(own), rows)), h.table(h.on(below, h.grid(own)))), ends[1])


class Ladders(unittest.TestCase):
    def test_is_ladder(self):
        for draw, form, table, ladder in cases():
            self.assertIs(v.is_ladder(table, ladder), True)
            self.assertIs(v.is_ladder(value=ladder, table=table), True)
            self.assertIs(v.is_ladder(table, ladder[:1]), True)
            self.assertIs(v.is_ladder(table, list(ladder)), False)
            self.assertIs(v.is_ladder(table, ()), False)
            self.assertIs(v.is_ladder(table, (ladder * 3)[:3]), False)
            self.assertIs(v.is_ladder(table, ladder[:1] + (None,)), False)
            half = h.table([[x / 2 for x in row] for row in form])
            self.assertIs(v.is_ladder(table, ((half, ladder[0][1]),) + ladder[1:]), False)
            self.assertIs(v.is_ladder(table, ((ladder[0][0], ()),)), False)

    def test_whatever_the_value_is(self):
        for value, _, _, _ in WRONG["ladder"]:
            self.assertIs(v.is_ladder(LINK, value), False)
        for kind in ("method", "aid", "team", "smoother", "rows"):
            for value, _, _, _ in WRONG[kind]:
                self.assertIs(v.is_ladder(LINK, value), False)

    def test_the_table_is_checked(self):
        for value, _, _, _ in WRONG["table"]:
            for ladder in (((LOWER, FIRM),), None, ()):
                with self.assertRaises(errors.InvalidTable) as caught:
                    v.is_ladder(value, ladder)
                self.assertIs(caught.exception.given, value)

    def test_a_second_pair_for_the_table_that_is_made(self):
        first = (((1, 1), (0, 1)),)
        one = ((((3, 2),),), (((-5, 7),),))
        self.assertIs(v.is_ladder(FIRM, ((LOWER, first), one)), True)
        twice = h.table(((2, 0), (0, 2)))
        great = h.table([[4 * h.number(x) for x in row] for row in LOWER])
        # The rows of TWICE make four times FIRM of it.
        for ladder, at in ((((LOWER, first), (LOWER, first)), 1), (((LOWER, twice), (LOWER, first)), 1),
                           (((LOWER, first), ((((1, 1),),), (((1, 1),),))), 1), (((LOWER, first), (one[0], first)), 1),
                           (((FIRM, first), one, one), None), (((great, first), (one[0], ())), 1), ((one, one), 0)):
            self.assertIs(v.is_ladder(FIRM, ladder), False)
            for told in (v.level_tables, v.exact_round, v.v_round, v.w_round):
                with self.assertRaises(errors.InvalidLadder) as caught:
                    told(FIRM, ladder)
                self.assertEqual(caught.exception.index, at)
        self.assertIs(v.is_ladder(FIRM, ((LOWER, twice), (great, first))), True)

    def test_level_tables(self):
        for _, form, table, ladder in cases():
            found = v.level_tables(table, ladder)
            self.assertEqual((type(found), len(found)), (tuple, len(ladder) + 1))
            self.assertEqual(found[0], table)
            for at, (_, rows) in enumerate(ladder):
                form = h.product(h.grid(rows), h.product(form, h.turned(h.grid(rows))))
                self.assertEqual(found[at + 1], h.table(form))
            self.assertEqual(v.level_tables(ladder=ladder, table=table), found)


class Rounds(unittest.TestCase):
    def test_the_exact_round(self):
        for _, form, table, ladder in cases():
            solver, rows = ladder[0]
            found = v.exact_round(table, ladder)
            self.assertEqual(found, (smoothing_aid(solver), h.exact_aid(form, h.grid(rows)), smoothing_aid(turned(solver))))
            self.assertEqual(v.exact_round(ladder=ladder, table=table), found)
            self.assertEqual(v.exact_round(table, ladder[:1]), found)

    def test_the_v_and_the_w_round(self):
        for _, form, table, ladder in cases():
            vee, double = v.v_round(table, ladder), v.w_round(table, ladder)
            self.assertEqual(v.v_round(ladder=ladder, table=table), vee)
            self.assertEqual(v.w_round(ladder=ladder, table=table), double)
            if len(ladder) == 1:
                self.assertEqual((vee, double), (v.exact_round(table, ladder),) * 2)
                self.assertEqual(len(vee), 3)
                continue
            ends = [(smoothing_aid(solver),) for solver in (ladder[0][0], turned(ladder[0][0]))]
            between = aids_between(form, ladder)
            self.assertEqual(vee, ends[0] + between + ends[1])
            self.assertEqual(double, ends[0] + between + between + ends[1])
            self.assertEqual((len(vee), len(double)), (5, 8))

    def test_they_are_whole_methods(self):
        for _, form, table, ladder in cases():
            for told in (v.exact_round, v.v_round, v.w_round):
                self.assertIs(methods.is_whole(table, told(table, ladder)), True)
                self.assertTrue(all(aids.is_aid(table, aid) for aid in told(table, ladder)))

    def test_their_error_tables(self):
        for _, form, table, ladder in cases():
            for told, some, times in ((v.exact_round, ladder[:1], 1), (v.v_round, ladder, 1), (v.w_round, ladder, 2)):
                found = methods.error_table(table, told(table, ladder))
                self.assertEqual(found, h.table(round_errors(form, some, times)))

    def test_each_is_alike_itself_turned_about(self):
        for _, form, table, ladder in cases():
            for told in (v.exact_round, v.v_round, v.w_round):
                found = told(table, ladder)
                self.assertEqual(h.turned_about(found), found)
                self.assertEqual(methods.turned(table, found), found)
                # In the energy the error table is a square form, from 0 to 1.
                energy = h.product(form, h.grid(methods.error_table(table, found)))
                self.assertEqual(h.turned(energy), energy)
                self.assertTrue(h.is_from_nought(energy))
                self.assertTrue(h.is_positive(h.combined(1, form, -1, energy)))

    def test_first_rows_that_are_all_unit_rows(self):
        """Then the second table is the first one again."""
        for draw, form, table, _ in cases():
            units, smoother = h.table(h.units(len(form))), h.table(h.drawn_smoother(draw, form))
            lower = (smoother, h.table(h.drawn_free(draw, 1, len(form))))
            ladder = ((smoother, units), lower)
            self.assertEqual(v.level_tables(table, ladder)[:2], (table, table))
            inner = v.v_round(table, (lower,))
            self.assertEqual(v.v_round(table, ladder), (inner[0],) + inner + (inner[-1],))
            self.assertEqual(v.w_round(table, ladder), (inner[0],) + inner * 2 + (inner[-1],))
            self.assertIs(factors.ends_at_once(table, v.exact_round(table, ladder)), True)

    def test_by_hand(self):
        """(1, 1) has the energy 6, three times it 54; half of 6 would be no smoother, 4 is one."""
        ladder = ((LOWER, h.table(((1, 1),))), ((((4, 1),),), (((3, 1),),)))
        ends = [(h.table(h.units(2)), solver) for solver in (LOWER, UPPER)]
        lower = (h.table(((1, 1),)), (((4, 1),),))
        between = (lower, (h.table(((3, 3),)), (((54, 1),),)), lower)
        self.assertEqual(v.level_tables(FIRM, ladder), (FIRM, (((6, 1),),), (((54, 1),),)))
        self.assertEqual(v.v_round(FIRM, ladder), (ends[0],) + between + (ends[1],))
        self.assertEqual(v.w_round(FIRM, ladder), (ends[0],) + between * 2 + (ends[1],))
        self.assertEqual(v.exact_round(FIRM, ladder), (ends[0], (h.table(((1, 1),)), (((6, 1),),)), ends[1]))
        self.assertEqual(factors.factor_near(FIRM, v.exact_round(FIRM, ((LOWER, h.table(((1, 0),))),)), 256), (1, True))


class Factors(unittest.TestCase):
    def test_in_this_order(self):
        told = set()
        for _, form, table, ladder in cases():
            rounds = [round_told(table, ladder) for round_told in (v.exact_round, v.w_round, v.v_round)]
            near = [factors.factor_near(table, method, 10 ** 6) for method in rounds]
            self.assertEqual([k for k, _ in near], sorted(k for k, _ in near))
            left = [h.on(form, h.turned(round_errors(form, some, times))) for some, times in ((ladder[:1], 1), (ladder, 2), (ladder, 1))]
            for some, found in zip(left, near):
                self.assertTrue(h.is_near(form, some, found, 10 ** 6))
            for method, better in ((rounds[1], rounds[0]), (rounds[2], rounds[1])):
                share = h.pair(Fraction(factors.factor_near(table, method, 1000)[0] + 1, 1001))
                self.assertLessEqual(factors.has_factor(table, method, share), factors.has_factor(table, better, share))
            told.add((near[0] < near[1], near[1] < near[2]))
        self.assertIn((True, True), told)

    def test_the_exact_round_has_the_square_of_that_of_two_grids(self):
        for _, form, table, ladder in cases():
            solver, rows = ladder[0]
            k, is_just = coarse.coarse_factor_near(table, turned(solver), rows, 100)
            square, is_just_square = factors.factor_near(table, v.exact_round(table, ladder), 100 * 100)
            self.assertTrue(k * k <= square < (k + 1) * (k + 1))
            self.assertEqual((square, is_just_square) == (k * k, True), is_just)
            grids = coarse.two_grids(table, turned(solver), rows)
            self.assertEqual(factors.factor_near(table, grids, 100), (k, is_just))
            for share in (Fraction(0), Fraction(1, 3), Fraction(k, 100), Fraction(k + 1, 101), Fraction(9, 10)):
                has = coarse.has_coarse_factor(table, turned(solver), rows, h.pair(share))
                self.assertIs(factors.has_factor(table, v.exact_round(table, ladder), h.pair(share * share)), has)

    def test_one_more_smoother_at_both_ends_is_never_worse(self):
        for draw, form, table, ladder in cases():
            solver = h.table(h.drawn_smoother(draw, form))
            for told in (v.exact_round, v.v_round):
                method = told(table, ladder)
                longer = (smoothing_aid(solver),) + method + (smoothing_aid(turned(solver)),)
                least = factors.factor_near(table, method, 10 ** 6)
                self.assertLessEqual(factors.factor_near(table, longer, 10 ** 6)[0], least[0])

    def test_all_rows_leave_nothing(self):
        for draw, form, table, _ in cases():
            ladder = drawn_ladder(draw, form, (len(form),))
            self.assertIs(factors.ends_at_once(table, v.exact_round(table, ladder)), True)
            for second in (1, len(form)):
                some = drawn_ladder(draw, form, (len(form), second))
                self.assertIs(factors.ends_at_once(table, v.exact_round(table, some)), True)
                self.assertIs(factors.ends_at_once(table, v.v_round(table, some)), second == len(form))


if __name__ == "__main__":
    unittest.main()
