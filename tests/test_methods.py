import unittest
from fractions import Fraction

import helpers as h
from splitcosts import aids, methods as m

MANIES = (1, 2, 3, 4, 5)
LINK = h.table(((2, -1), (-1, 2)))


def cases():
    return h.drawn_methods(3)


def holds_all(method, many):
    return h.is_whole(h.all_rows(method), many)


class ErrorTables(unittest.TestCase):
    def test_it_does_what_the_aids_do_one_behind_another(self):
        for draw, form, table, method in cases():
            found = m.error_table(table, method)
            self.assertTrue(h.is_rows(found, len(form)))
            self.assertEqual(len(found), len(form))
            for error in [h.drawn_row(draw, len(form)) for _ in range(3)] + h.units(len(form)):
                self.assertEqual(h.times(h.grid(found), error), h.method_step(form, method, error))
            self.assertEqual(m.error_table(method=method, table=table), found)

    def test_it_is_that_of_the_steps(self):
        for draw, form, table, method in cases():
            error = left = h.pairs(h.drawn_row(draw, len(form)))
            for aid in method:
                left = aids.step(table, aid, left)
            self.assertEqual(m.run(table, method, error, 1), left)

    def test_the_same_exact_aid_twice(self):
        for draw, form, table, _ in cases():
            for count in range(1, len(form) + 1):
                aid = aids.exact_aid(table, h.table(h.drawn_free(draw, count, len(form))))
                once = m.error_table(table, (aid,))
                for many in (2, 8):
                    self.assertEqual(m.error_table(table, (aid,) * many), once)
                    self.assertEqual(m.mean_table(table, (aid,) * many), m.mean_table(table, (aid,)))

    def test_of_exact_aids_the_spans_alone_decide(self):
        for draw, form, table, method in cases():
            exact = tuple(aids.exact_aid(table, rows) for rows, _ in method)
            other = []
            for rows, _ in method:
                change = h.drawn_free(draw, len(rows), len(rows))
                other.append(aids.exact_aid(table, h.table(h.product(change, h.grid(rows)))))
            for told in (m.error_table, m.mean_table, m.is_whole):
                self.assertEqual(told(table, exact), told(table, tuple(other)))

    def test_exact_aids_of_all_rows_leave_nothing(self):
        for draw, form, table, method in cases():
            aid = aids.exact_aid(table, h.table(h.drawn_free(draw, len(form), len(form))))
            for longer in ((aid,), (method + (aid,))[-8:], ((aid,) + method)[:8]):
                self.assertEqual(m.error_table(table, longer), (((0, 1),) * len(form),) * len(form))

    def test_the_points_one_behind_another_are_a_smoother(self):
        """That of the numbers on and below the slant, which is not alike turned over."""
        for _, form, table, _ in cases():
            lower = tuple(tuple(x if place <= at else (0, 1) for place, x in enumerate(row)) for at, row in enumerate(table))
            points, smoother = aids.point_aids(table), aids.smoother_aid(table, lower)
            self.assertEqual(m.joined_table(table, points), smoother)
            for method in ((smoother,), m.turned(table, (smoother,))):
                turned = m.turned(table, points) if method[0] != smoother else points
                self.assertEqual(m.error_table(table, method), m.error_table(table, turned))
                self.assertEqual(m.mean_table(table, method), m.mean_table(table, turned))

    def test_an_aid_between_may_do_harm(self):
        table = h.table(h.units(2))
        first, second, between = [aids.exact_aid(table, h.table([row])) for row in ((0, 1), (1, 0), (1, -1))]
        self.assertEqual(m.error_table(table, (first, second)), (((0, 1),) * 2,) * 2)
        self.assertNotEqual(m.error_table(table, (first, between, second)), (((0, 1),) * 2,) * 2)


class Runs(unittest.TestCase):
    def test_rounds(self):
        for draw, form, table, method in cases():
            error = h.drawn_row(draw, len(form))
            left, told = error, h.pairs(error)
            for rounds in range(4):
                self.assertEqual(m.run(table, method, told, rounds), h.pairs(left))
                self.assertEqual(m.run(rounds=rounds, row=told, method=method, table=table), h.pairs(left))
                left = h.method_step(form, method, left)

    def test_none_and_forty(self):
        for draw, form, table, method in cases():
            if len(method) > 2:
                continue
            error = h.drawn_row(draw, len(form))
            self.assertEqual(m.run(table, method, h.pairs(error), 0), h.pairs(error))
            errors, left = h.error_table(form, method), error
            for _ in range(40):
                left = h.times(errors, left)
            self.assertEqual(m.run(table, method, h.pairs(error), 40), h.pairs(left))
            self.assertEqual(m.run(table, method, m.run(table, method, h.pairs(error), 20), 20), h.pairs(left))

    def test_noughts(self):
        for _, form, table, method in cases():
            nothing = ((0, 1),) * len(form)
            for rounds in (0, 1, 40):
                self.assertEqual(m.run(table, method, nothing, rounds), nothing)

    def test_forty_rounds_by_hand(self):
        """Each point aid of LINK halves what the other one left."""
        points = aids.point_aids(LINK)
        self.assertEqual(m.run(LINK, points, ((0, 1), (1, 1)), 40), ((1, 2 ** 79), (1, 2 ** 80)))
        self.assertEqual(m.run(LINK, points[:1], ((5, 1), (2, 1)), 40), ((1, 1), (2, 1)))


class Turned(unittest.TestCase):
    def test_turned(self):
        for _, form, table, method in cases():
            found = m.turned(table, method)
            self.assertEqual(found, h.turned_about(method))
            self.assertEqual(m.turned(table, found), method)
            self.assertEqual(m.turned(method=method, table=table), found)
            self.assertTrue(all(aids.is_aid(table, aid) for aid in found))

    def test_its_energy_product(self):
        for draw, form, table, method in cases():
            ahead = h.grid(m.error_table(table, method))
            behind = h.grid(m.error_table(table, m.turned(table, method)))
            for _ in range(3):
                row, other = h.drawn_row(draw, len(form)), h.drawn_row(draw, len(form))
                one = h.dot(h.times(ahead, row), h.times(form, other))
                self.assertEqual(one, h.dot(row, h.times(form, h.times(behind, other))))

    def test_there_and_back(self):
        for _, form, table, method in cases():
            some = method[:4]
            found = m.there_and_back(table, some)
            self.assertEqual(found, some + h.turned_about(some))
            self.assertEqual(m.there_and_back(method=some, table=table), found)
            ahead, behind = m.error_table(table, some), m.error_table(table, m.turned(table, some))
            self.assertEqual(h.grid(m.error_table(table, found)), h.product(h.grid(behind), h.grid(ahead)))
            self.assertEqual(m.turned(table, found), found)

    def test_one_and_four_aids(self):
        aid = aids.point_aids(LINK)[0]
        for many in (1, 4):
            self.assertEqual(m.there_and_back(LINK, (aid,) * many), (aid,) * (2 * many))


class OneAid(unittest.TestCase):
    """A method is one aid: point 11."""

    def test_joined_table(self):
        sizes = set()
        for _, form, table, method in cases():
            found = m.joined_table(table, method)
            self.assertEqual((type(found), len(found)), (tuple, 2))
            rows, solver = found
            self.assertEqual(rows, h.table(h.all_rows(method)))
            self.assertEqual(solver, h.table(h.joined(form, method)))
            self.assertEqual(m.joined_table(method=method, table=table), found)
            sizes.add(len(rows))
        self.assertGreater(max(sizes), 20)

    def test_the_most_rows(self):
        draw = h.draws(9)
        form = h.drawn_positive(draw, 5, 1)
        method = h.drawn_method(draw, form, 8, 5)
        rows, solver = m.joined_table(h.table(form), method)
        self.assertEqual((len(rows), len(solver), {len(line) for line in solver}), (40, 40, {40}))
        self.assertEqual(solver, h.table(h.joined(form, method)))

    def test_errors_go_by_it(self):
        """L z = R A e for the numbers z that the aids take one behind another, and E e = e - R' z."""
        for draw, form, table, method in cases():
            rows, solver = [h.grid(part) for part in m.joined_table(table, method)]
            errors = h.grid(m.error_table(table, method))
            for error in [h.drawn_row(draw, len(form)) for _ in range(2)]:
                left, taken = error, []
                for aid in method:
                    taken = taken + h.numbers_taken(form, aid, left)
                    left = h.aid_step(form, aid, left)
                self.assertEqual(h.times(solver, taken), h.times(rows, h.times(form, error)))
                self.assertEqual(h.less(error, h.sum_of_rows(taken, rows, len(form))), h.times(errors, error))

    def test_its_gap(self):
        for _, form, table, method in cases():
            rows, solver = [h.grid(part) for part in m.joined_table(table, method)]
            gap = h.combined(1, h.combined(1, solver, 1, h.turned(solver)), -1, h.on(form, rows))
            ahead = 0
            for aid in method:
                own = h.less_gap(form, aid)
                for line, part in zip(gap[ahead:ahead + len(own)], own):
                    self.assertEqual(line, [0] * ahead + part + [0] * (len(gap) - ahead - len(own)))
                ahead += len(own)

    def test_mean_table(self):
        for _, form, table, method in cases():
            found = m.mean_table(table, method)
            self.assertEqual(found, h.table(h.mean(form, method)))
            self.assertEqual(m.mean_table(method=method, table=table), found)
            self.assertEqual(h.turned(h.grid(found)), h.grid(found))
            self.assertTrue(h.is_from_nought(h.grid(found)))
            self.assertEqual(h.is_positive(h.grid(found)), holds_all(method, len(form)))

    def test_the_energy_falls_by_its_worth(self):
        for draw, form, table, method in cases():
            mean = h.grid(m.mean_table(table, method))
            for _ in range(3):
                error = h.drawn_row(draw, len(form))
                left = h.worth(form, h.method_step(form, method, error))
                self.assertEqual(left, h.worth(form, error) - h.worth(mean, h.times(form, error)))

    def test_by_hand(self):
        points = aids.point_aids(LINK)
        self.assertEqual(m.joined_table(LINK, points), (h.table(h.units(2)), h.table(((2, 0), (-1, 2)))))
        self.assertEqual(m.joined_table(LINK, points[::-1]), (h.table(((0, 1), (1, 0))), h.table(((2, 0), (-1, 2)))))
        self.assertEqual(m.joined_table(LINK, points[:1] * 3)[1], h.table(((2, 0, 0), (2, 2, 0), (2, 2, 2))))
        self.assertEqual(m.mean_table(LINK, points[:1]), h.table(((Fraction(1, 2), 0), (0, 0))))
        one = (((((2, 1),),), (((5, 1),),)),)
        self.assertEqual(m.joined_table((((2, 1),),), one), ((((2, 1),),), (((5, 1),),)))
        self.assertEqual(m.error_table((((2, 1),),), one), (((-3, 5),),))
        self.assertEqual(m.mean_table((((2, 1),),), one), (((8, 25),),))


class Whole(unittest.TestCase):
    def test_is_whole(self):
        told = set()
        for _, form, table, method in cases():
            for some in (method, method[:1], method[-1:], method[:2]):
                whole = m.is_whole(table, some)
                self.assertIs(whole, holds_all(some, len(form)))
                self.assertIs(m.is_whole(method=some, table=table), whole)
                self.assertEqual(h.is_positive(h.grid(m.mean_table(table, some))), whole)
                told.add((len(form), whole))
        self.assertEqual(told, {(many, True) for many in MANIES} | {(many, False) for many in MANIES[1:]})

    def test_errors_die_exactly_if_it_is_whole(self):
        """All energies fall in each round, and so to nothing: a whole method lets none stay, and another one does."""
        for _, form, table, method in cases():
            for some in (method, method[:1]):
                errors = h.grid(m.error_table(table, some))
                falls = h.is_positive(h.combined(1, form, -1, h.on(form, h.turned(errors))))
                self.assertEqual(falls, m.is_whole(table, some))

    def test_staying_error(self):
        stayed = 0
        for _, form, table, method in cases():
            for some in (method, method[:1], method[-1:], method[:1] * 8):
                found = m.staying_error(table, some)
                self.assertEqual(m.staying_error(method=some, table=table), found)
                self.assertEqual(found is None, holds_all(some, len(form)))
                if found is None:
                    continue
                stayed += 1
                self.assertTrue(h.is_row(found, len(form)))
                error = h.numbers(found)
                self.assertTrue(any(error))
                self.assertFalse(any(h.times(h.all_rows(some), h.times(form, error))))
                self.assertEqual(h.method_step(form, some, error), error)
                for rounds in (0, 1, 40):
                    self.assertEqual(m.run(table, some, found, rounds), found)
        self.assertGreater(stayed, 15)

    def test_the_spans_count_together(self):
        chain = h.table(((2, -1, 0), (-1, 2, -1), (0, -1, 2)))
        for lots, whole in ((((0, 1), (1, 2)), True), (((0, 1), (0, 1)), False), (((0,), (2,)), False), (((2,), (0,), (1,)), True),
                            (((0, 1, 2),), True), (((0, 1), (1,), (0,)), False)):
            method = aids.lot_aids(chain, lots)
            self.assertIs(m.is_whole(chain, method), whole)
            self.assertEqual(m.staying_error(chain, method) is None, whole)

    def test_rows_that_are_free_only_together(self):
        rows = [h.table([row]) for row in ((1, 1, 0), (0, 1, 1), (1, 2, 1), (1, 0, 1))]
        table = h.table(h.units(3))
        exact = [aids.exact_aid(table, row) for row in rows]
        self.assertIs(m.is_whole(table, tuple(exact[:3])), False)
        self.assertIs(m.is_whole(table, tuple(exact)), True)


if __name__ == "__main__":
    unittest.main()
