import unittest
from fractions import Fraction

import helpers as h
from splitcosts import aids, methods, splits as s

LINK = h.table(((2, -1), (-1, 2)))


def cases():
    return h.drawn_methods(5)


def whole_cases():
    return h.whole_methods(5)


def drawn_split(draw, method):
    return tuple(h.pairs([h.drawn_fraction(draw) for _ in rows]) for rows, _ in method)


def sum_of(method, split, many):
    return h.sum_of_rows([h.number(x) for part in split for x in part], h.all_rows(method), many)


class Splits(unittest.TestCase):
    def test_split_sum(self):
        for draw, form, table, method in cases():
            split = drawn_split(draw, method)
            found = s.split_sum(table, method, split)
            self.assertEqual(found, h.pairs(sum_of(method, split, len(form))))
            self.assertEqual(s.split_sum(split=split, method=method, table=table), found)

    def test_split_cost(self):
        for draw, form, table, method in cases():
            split = drawn_split(draw, method)
            found = s.split_cost(table, method, split)
            self.assertEqual(found, h.pair(h.split_cost(form, method, split)))
            self.assertEqual(s.split_cost(split=split, method=method, table=table), found)

    def test_noughts(self):
        for _, form, table, method in cases():
            split = tuple(((0, 1),) * len(rows) for rows, _ in method)
            self.assertEqual(s.split_sum(table, method, split), ((0, 1),) * len(form))
            self.assertEqual(s.split_cost(table, method, split), (0, 1))

    def test_the_cost_of_exact_aids(self):
        """The energies of what each span can take of its own part and all later ones."""
        for draw, form, table, method in cases():
            method = tuple(aids.exact_aid(table, rows) for rows, _ in method)
            split = drawn_split(draw, method)
            cost = Fraction(0)
            for at, aid in enumerate(method):
                rest = sum_of(method[at:], split[at:], len(form))
                taken = h.less(rest, h.aid_step(form, aid, rest))
                cost += h.worth(form, taken)
            self.assertEqual(s.split_cost(table, method, split), h.pair(cost))

    def test_for_methods_that_are_not_whole(self):
        first = aids.point_aids(LINK)[:1]
        self.assertEqual(s.split_sum(LINK, first * 2, (((1, 1),), ((3, 1),))), ((4, 1), (0, 1)))
        self.assertEqual(s.split_cost(LINK, first * 2, (((1, 1),), ((3, 1),))), (32 + 18, 1))
        self.assertEqual(s.price_bound(LINK, first, ((6, 1), (5, 1)), ((4, 1), (3, 1))), (2 * 39 - 18, 1))

    def test_one_row(self):
        table, method = (((2, 1),),), (((((2, 1),),), (((5, 1),),)),)
        # The gap is 10 less 8, what is left - 3 / 5, so the mean table half of 1 less 9 / 25.
        self.assertEqual(s.split_sum(table, method, (((3, 1),),)), ((6, 1),))
        self.assertEqual(s.split_cost(table, method, (((3, 1),),)), (225, 2))
        self.assertEqual(s.least_split(table, method, ((6, 1),)), (((3, 1),),))
        self.assertEqual(s.least_cost(table, method, ((6, 1),)), (225, 2))


class LeastCosts(unittest.TestCase):
    def test_of_the_one_split_and_of_the_best_price(self):
        for draw, form, table, method in whole_cases():
            for row in (h.drawn_row(draw, len(form)), h.units(len(form))[-1]):
                told = h.pairs(row)
                least = s.least_cost(table, method, told)
                split = s.least_split(table, method, told)
                price = s.best_price(table, method, told)
                self.assertEqual(type(split), tuple)
                self.assertEqual([h.is_row(part, len(aid[0])) for part, aid in zip(split, method)], [True] * len(method))
                self.assertEqual(s.split_sum(table, method, split), told)
                self.assertEqual(h.pair(h.split_cost(form, method, split)), least)
                self.assertEqual(s.split_cost(table, method, split), least)
                self.assertEqual(s.price_bound(table, method, price, told), least)
                self.assertGreater(least[0], 0)

    def test_it_is_the_worth_of_the_inverse_mean_table(self):
        for draw, form, table, method in whole_cases():
            row, mean = h.drawn_row(draw, len(form)), h.mean(form, method)
            self.assertEqual(h.times(mean, h.numbers(s.best_price(table, method, h.pairs(row)))), row)
            self.assertEqual(s.least_cost(table, method, h.pairs(row)), h.pair(h.worth(h.inverse(mean), row)))

    def test_no_other_split_costs_as_little(self):
        for draw, form, table, method in whole_cases():
            method = method[:2] if h.is_whole(h.all_rows(method[:2]), len(form)) else method
            row = h.pairs(h.drawn_row(draw, len(form)))
            least = h.number(s.least_cost(table, method, row))
            flat = [h.number(x) for part in s.least_split(table, method, row) for x in part]
            for change in self.changes(draw, method, len(form)):
                for factor in (1, -1, Fraction(1, 1000)):
                    other = h.cut([x + factor * y for x, y in zip(flat, change)], method)
                    self.assertEqual(s.split_sum(table, method, other), row)
                    self.assertGreater(h.number(s.split_cost(table, method, other)), least)

    def changes(self, draw, method, many):
        """Some splits of noughts, other than noughts."""
        rows = h.all_rows(method)
        found = h.nulls(h.turned(rows), len(rows))
        self.assertEqual(len(found), len(rows) - many)
        return draw.sample(found, min(len(found), 3))

    def test_drawn_splits_cost_no_less(self):
        """Not by way of the one split: of a drawn split's own row the least cost is at most what it costs."""
        for draw, form, table, method in whole_cases():
            for _ in range(2):
                split = drawn_split(draw, method)
                cost = h.split_cost(form, method, split)
                row = s.split_sum(table, method, split)
                self.assertLessEqual(h.number(s.least_cost(table, method, row)), cost)
                price = h.drawn_row(draw, len(form))
                self.assertLessEqual(h.number(s.price_bound(table, method, h.pairs(price), row)), cost)

    def test_by_name_and_again(self):
        for draw, form, table, method in whole_cases():
            row = h.pairs(h.drawn_row(draw, len(form)))
            for told in (s.least_split, s.least_cost, s.best_price):
                found = told(table, method, row)
                self.assertEqual(told(row=row, method=method, table=table), found)
                self.assertEqual(told(table, method, row), found)

    def test_noughts_cost_nothing(self):
        for _, form, table, method in whole_cases():
            row = ((0, 1),) * len(form)
            self.assertEqual(s.least_cost(table, method, row), (0, 1))
            self.assertEqual(s.best_price(table, method, row), row)
            self.assertEqual(s.least_split(table, method, row), tuple(((0, 1),) * len(rows) for rows, _ in method))

    def test_the_exact_aid_of_all_rows(self):
        """Then the cost is the energy."""
        for draw, form, table, _ in cases():
            aid = aids.exact_aid(table, h.table(h.units(len(form))))
            row = h.drawn_row(draw, len(form))
            self.assertEqual(s.least_split(table, (aid,), h.pairs(row)), (h.pairs(row),))
            self.assertEqual(s.least_cost(table, (aid,), h.pairs(row)), h.pair(h.worth(form, row)))
            self.assertEqual(s.best_price(table, (aid,), h.pairs(row)), h.pairs(h.times(form, row)))

    def test_eight_aids_of_one_row(self):
        """The first one takes it all: the later ones are not asked for anything."""
        table, aid = (((3, 1),),), (((((1, 1),),), (((3, 1),),)))
        self.assertEqual(s.least_cost(table, (aid,) * 8, ((2, 1),)), (12, 1))
        found = s.least_split(table, (aid,) * 8, ((2, 1),))
        self.assertEqual(s.split_sum(table, (aid,) * 8, found), ((2, 1),))
        self.assertEqual(found, (((2, 1),),) + (((0, 1),),) * 7)


class Prices(unittest.TestCase):
    def test_price_bound(self):
        for draw, form, table, method in cases():
            mean = h.mean(form, method)
            for _ in range(2):
                price, row = h.drawn_row(draw, len(form)), h.drawn_row(draw, len(form))
                found = s.price_bound(table, method, h.pairs(price), h.pairs(row))
                self.assertEqual(found, h.pair(2 * h.dot(price, row) - h.worth(mean, price)))
                named = s.price_bound(row=h.pairs(row), price=h.pairs(price), method=method, table=table)
                self.assertEqual(named, found)
            nothing = ((0, 1),) * len(form)
            self.assertEqual(s.price_bound(table, method, nothing, h.pairs(row)), (0, 1))
            self.assertEqual(s.price_bound(table, method, h.pairs(price), nothing), h.pair(-h.worth(mean, price)))

    def test_no_price_bounds_more_than_the_best_one(self):
        for draw, form, table, method in whole_cases():
            row = h.pairs(h.drawn_row(draw, len(form)))
            least, best = h.number(s.least_cost(table, method, row)), h.numbers(s.best_price(table, method, row))
            for _ in range(3):
                price = h.drawn_row(draw, len(form))
                self.assertLessEqual(h.number(s.price_bound(table, method, h.pairs(price), row)), least)
                near = [x + y / 1000 for x, y in zip(best, price)]
                self.assertLess(h.number(s.price_bound(table, method, h.pairs(near), row)), least)

    def test_prices_bound_all_splits_of_methods_that_are_not_whole(self):
        seen = 0
        for draw, form, table, method in cases():
            if methods.is_whole(table, method):
                continue
            seen += 1
            for _ in range(4):
                split, price = drawn_split(draw, method), h.pairs(h.drawn_row(draw, len(form)))
                cost = h.number(s.split_cost(table, method, split))
                row = s.split_sum(table, method, split)
                self.assertLessEqual(h.number(s.price_bound(table, method, price, row)), cost)
        self.assertGreater(seen, 4)


if __name__ == "__main__":
    unittest.main()
