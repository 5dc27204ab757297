"""Each function of the interface for tables of 1 to 5 rows: by position, by name and again."""

import copy
import unittest

import helpers as h
from splitcosts import aids, certificates, checker, colours, errors, factors, inner, levels, methods, smoothers, splits, tables
from splitcosts import together, twospans
from wrongs import functions


def drawn_arguments(draw, many, kinds):
    form = h.drawn_positive(draw, many)
    drawn = h.drawn_positive(draw, many)
    method = h.drawn_method(draw, form, 2) + (h.drawn_aid(draw, form, many),)
    rows = h.drawn_free(draw, draw.randint(1, many), many)
    solver = h.drawn_smoother(draw, form)
    if "rows" in kinds:
        solver = [[h.drawn_fraction(draw) for _ in rows] for _ in rows]
    lots = [tuple(sorted(draw.sample(range(many), draw.randint(1, many)))) for _ in range(3)]
    first, second = h.drawn_spans(draw, many)
    inner_lot = tuple(sorted(draw.sample(range(many), draw.randint(1, max(many - 1, 1)))))
    team = h.drawn_team(draw, many, 2) + h.drawn_team(draw, many, 1)
    kept = h.drawn_free(draw, draw.randint(0, many), many)
    lower = h.drawn_free(draw, 1, len(rows))
    given = {
        "table": h.table(form), "form": h.table(h.combined(1, form, -1, drawn)), "row": h.pairs(h.drawn_row(draw, many)),
        "other": h.pairs(h.drawn_row(draw, many)), "price": h.pairs(h.drawn_row(draw, many)), "rows": h.table(rows),
        "solver": h.table(solver), "aid": method[0], "method": method, "lots": tuple(lots), "rounds": draw.randint(0, 3),
        "split": tuple(h.pairs([h.drawn_fraction(draw) for _ in part]) for part, _ in method),
        "value": method[1] if len(kinds) > 1 else h.table(form), "most": (draw.randint(1, 9), draw.choice((11, 13))),
        "many": draw.randint(1, 10 ** 6), "team": team + ((h.table(h.units(many)), h.table(drawn)),), "first": h.table(first),
        "second": h.table(second), "inner": inner_lot, "numbers": h.pairs([h.drawn_fraction(draw) for _ in range(many - len(inner_lot))]),
        "coarse": h.table(h.drawn_free(draw, draw.randint(0, many), many)), "spans": (h.table(first), h.table(second)),
        "parts": tuple(h.pairs([h.drawn_fraction(draw) for _ in part]) for part, _ in team) + (h.pairs(h.drawn_row(draw, many)),),
        "number": h.pair(abs(h.drawn_fraction(draw))), "damping": h.pair(abs(h.drawn_fraction(draw)) + 1), "root": (2, 3),
        "smoother": h.table(h.drawn_smoother(draw, form)), "other_smoother": h.table(h.drawn_smoother(draw, form)),
        "kept": h.table(kept), "count": draw.randint(len(kept), many), "weight": (1, many),
        "ladder": ((h.table(h.drawn_smoother(draw, form)), h.table(rows)),
                   (h.table(h.drawn_smoother(draw, h.on(form, rows))), h.table(lower))),
    }
    return {name: given[kind] for name, kind in kinds.items()}


def is_plain(value):
    """Whether it is made of tuples, whole numbers, truths and texts alone."""
    if type(value) is tuple:
        return all(is_plain(part) for part in value)
    return value is None or type(value) in (int, bool, str)


class Again(unittest.TestCase):
    def test_by_position_by_name_and_again(self):
        seen = 0
        for told, kinds in functions():
            for many in range(1, 6):
                with self.subTest(function=told.__name__, many=many):
                    seen += 1
                    arguments = drawn_arguments(h.draws(many), many, kinds)
                    if "inner" in kinds and many == 1:
                        # There are no inner indexes.
                        self.assertRaises(errors.InvalidLot, told, *arguments.values())
                        continue
                    kept = copy.deepcopy(arguments)
                    found = told(*arguments.values())
                    self.assertTrue(is_plain(found))
                    self.assertEqual(told(**arguments), found)
                    self.assertEqual(told(**dict(reversed(list(arguments.items())))), found)
                    self.assertEqual(told(*copy.deepcopy(list(arguments.values()))), found)
                    self.assertEqual(arguments, kept)
        self.assertEqual(seen, 5 * 93)

    def test_what_was_returned_is_let(self):
        """Whatever the size of its numbers."""
        great = 10 ** 399
        table = (((great, great - 1), (-1, 3)), ((-1, 3), (1, great + 1)))
        table = h.table(h.product(h.grid(table), h.turned(h.grid(table))))
        method = aids.point_aids(table) + aids.lot_aids(table, ((0, 1),))
        method = methods.there_and_back(table, method[:2]) + method[2:]
        self.assertIs(tables.is_table(methods.mean_table(table, method)), True)
        row = methods.run(table, method[:1], ((great, 1), (1, great)), 40)
        price = splits.best_price(table, method[:2], row)
        split = splits.least_split(table, method[:2], price)
        self.assertEqual(splits.split_sum(table, method[:2], split), price)
        self.assertEqual(splits.split_cost(table, method[:2], split), splits.least_cost(table, method[:2], price))
        mean = methods.mean_table(table, method[:2])
        self.assertEqual(tables.signs(mean), (2, 0, 0))
        self.assertGreater(tables.worth(mean, methods.staying_error(table, method[:1]))[0], 0)
        self.assertEqual(aids.step(mean, aids.exact_aid(mean, mean), split[0] + split[1]), ((0, 1), (0, 1)))
        self.assertEqual(aids.gap(mean, h.table(h.units(2)), mean), mean)
        self.assertIs(aids.is_aid(mean, aids.smoother_aid(mean, mean)), True)

    def test_what_was_returned_is_let_by_all_the_others(self):
        great = 10 ** 399
        table = (((great, great - 1), (-1, 3)), ((-1, 3), (1, great + 1)))
        table = h.table(h.product(h.grid(table), h.turned(h.grid(table))))
        first, second = [(row,) for row in h.table(h.units(2))]
        mean = methods.mean_table(table, aids.point_aids(table))
        self.assertEqual(factors.factor_near(mean, aids.point_aids(mean), 10 ** 6), twospans.product_near(mean, first, second, 10 ** 6))
        lower = smoothers.lower_smoother(mean)
        upper = tuple(zip(*lower))
        ladder = ((upper, inner.harmonic_rows(mean, (0,))), (inner.outer_table(mean, (0,)), (((great, great - 1),),)))
        rounds = levels.w_round(mean, ladder)
        self.assertEqual(len(rounds), 8)
        self.assertIs(factors.ends_at_once(mean, levels.exact_round(mean, ladder)), True)
        pair = twospans.product_pair(mean, first, second, (0, 1))
        self.assertIs(inner.ends_with(mean, (1,), pair), True)
        team = together.exact_team(mean, (pair[:1], pair[1:]))
        self.assertEqual(colours.colours_of(mean, team), 2)
        for told, arguments in ((certificates.certify_factor, (mean, aids.point_aids(mean), (1, 2))),
                                (certificates.certify_cost, (mean, aids.point_aids(mean), pair[0])),
                                (certificates.certify_whole, (mean, rounds)), (certificates.certify_smoothers, (mean, mean, lower)),
                                (certificates.certify_ratios_from, (mean, team, (1, great))),
                                (certificates.certify_best, (mean, lower, (), 1, (0, 1)))):
            claim, paper = told(*arguments)
            self.assertIs(checker.accepts(claim, paper), True)

    def test_an_error_changes_nothing(self):
        table = h.table(((2, -1), (-1, 2)))
        method = aids.point_aids(table)
        found = methods.error_table(table, method)
        self.assertRaises(errors.InvalidMethod, methods.error_table, table, method + (None,))
        self.assertRaises(errors.TooMany, methods.there_and_back, table, method * 3)
        self.assertEqual(methods.error_table(table, method), found)


if __name__ == "__main__":
    unittest.main()
