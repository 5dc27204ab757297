import copy
import inspect
import unittest

import helpers as h
from splitcosts import aids, coarse, errors, factors, inner, methods, splits, tables, together, twospans
from wrongs import AID, FIRST, GOOD, LINK, LOWER, METHOD, ROW, SECOND, SWAP, TEAM, UNSAFE, WRONG, first_wrong, functions, good
from wrongs import wrong_tables, wrong_uneven


class Wrong(unittest.TestCase):
    def raises(self, told, arguments, wrong):
        """Check the error for what stands wrong among the arguments, which are passed by position and by name."""
        _, error, attribute, kept = wrong
        for call in (lambda: told(*arguments.values()), lambda: told(**arguments)):
            try:
                found = call()
            except errors.CostError as caught:
                self.assertIs(type(caught), error)
                self.assertEqual(list(vars(caught)), [attribute])
                if attribute == "given":
                    self.assertIs(getattr(caught, attribute), kept)
                else:
                    self.assertIs(type(getattr(caught, attribute)), type(kept))
                    self.assertEqual(getattr(caught, attribute), kept)
            else:
                self.fail(f"{told.__name__} returned {found!r}")

    def test_the_parameters(self):
        for told, kinds in functions():
            found = inspect.signature(told).parameters
            self.assertEqual(list(found), list(kinds))
            self.assertEqual({part.kind for part in found.values()}, {inspect.Parameter.POSITIONAL_OR_KEYWORD})

    def test_each_wrong_value_of_each_argument(self):
        for told, kinds in functions():
            for name, kind in kinds.items():
                for at, wrong in enumerate(WRONG.get(kind, ())):
                    with self.subTest(function=told.__name__, argument=name, at=at):
                        self.raises(told, good(kinds) | {name: wrong[0]}, wrong)

    def test_the_order(self):
        for told, kinds in functions():
            for at, name in enumerate(kinds):
                for wrong in WRONG.get(kinds[name], ())[::40]:
                    with self.subTest(function=told.__name__, argument=name):
                        behind = first_wrong({part: kinds[part] for part in list(kinds)[at + 1:]})
                        self.raises(told, good(kinds) | {name: wrong[0]} | behind, wrong)

    def test_good_arguments_are_let(self):
        for told, kinds in functions():
            arguments = good(kinds)
            kept = copy.deepcopy(arguments)
            found = told(*arguments.values())
            self.assertEqual(told(**arguments), found)
            self.assertEqual(told(*arguments.values()), found)
            self.assertEqual(arguments, kept)

    def test_the_ends_of_what_is_let(self):
        self.assertEqual(together.least_ratio_near(LINK, TEAM, 1), (0, False))
        self.assertEqual(together.least_ratio_near(LINK, TEAM, 10 ** 6), (500000, True))
        self.assertIs(together.has_ratios_from(LINK, TEAM, (0, 1)), True)
        self.assertIs(together.dies_with(LINK, TEAM, (1, 10 ** 399)), True)
        self.assertIs(together.dies_with(LINK, TEAM, (10 ** 399, 1)), False)
        self.assertIs(together.falls_to(LINK, TEAM, (1, 1), (0, 1)), False)
        self.assertIs(together.falls_to(LINK, TEAM, (1, 1), (10 ** 399, 10 ** 399 + 1)), True)
        self.assertIs(coarse.has_coarse_factor(LINK, LOWER, (), (10 ** 399, 10 ** 399 + 1)), True)
        self.assertEqual(coarse.best_factor_near(LINK, LOWER, (), 2, 1), (0, True))
        for kept in ((), FIRST, FIRST + SECOND):
            for count in range(len(kept), 3):
                self.assertLess(coarse.best_factor_near(LINK, LOWER, kept, count, 10 ** 6)[0], 10 ** 6)


class Great(unittest.TestCase):
    """What was returned may be passed, whatever the size of its numbers."""

    def test_what_was_returned_is_let(self):
        great = 10 ** 399
        table = (((great, great - 1), (-1, 3)), ((-1, 3), (1, great + 1)))
        table = together.summed_table(h.table(h.units(2)), (((FIRST + SECOND), self.positive(table)),))
        team = together.exact_team(table, (FIRST, SECOND, FIRST + SECOND))
        row = together.unfalling(table, team, (great, great + 7))
        prices = together.team_prices(table, team, row)
        split = together.team_split(table, team, prices)
        self.assertEqual(together.team_cost(table, team, split), together.least_team_cost(table, team, prices))
        self.assertEqual(together.greatest_ratio_near(table, team, 1)[0], 2)
        lower = (table[0][:1] + ((0, 1),), table[1])
        smoothed = coarse.smoothed_table(table, lower)
        self.assertEqual(coarse.coarse_factor_near(smoothed, smoothed, (row,), 10 ** 6), (0, True))
        beyond = coarse.coarse_beyond(table, lower, (), (0, 1))
        self.assertIs(coarse.has_coarse_factor(table, lower, (beyond,), (0, 1)), False)
        found = coarse.best_rows(table, lower, (), 1, (0, 1))
        self.assertEqual(coarse.best_rows(table, lower, found, 1, (0, 1)), found)
        self.assertEqual(coarse.coarse_factor_near(table, lower, found, 1), (0, True))

    def positive(self, table):
        rows = h.grid(table)
        return h.table(h.product(rows, h.turned(rows)))


class NotWholeTeams(unittest.TestCase):
    FUNCTIONS = (together.least_team_cost, together.team_split, together.team_prices)

    def test_it_is_raised(self):
        for told in self.FUNCTIONS:
            for row in (ROW, ((0, 1), (0, 1)), FIRST[0]):
                for team in (TEAM[:1], TEAM[1:], TEAM[:1] * 8):
                    with self.assertRaises(errors.NotWhole) as caught:
                        told(LINK, team, row)
                    self.assertIs(type(caught.exception), errors.NotWhole)
                    self.assertRaises(errors.NotWhole, lambda: told(row=row, team=team, table=LINK))

    def test_it_is_last(self):
        for told in self.FUNCTIONS:
            for row, at in (((1, 1), 0), (ROW[:1], None), (list(ROW), None), ((ROW[0], (2, 4)), 1)):
                with self.assertRaises(errors.InvalidRow) as caught:
                    told(LINK, TEAM[:1], row)
                self.assertEqual(caught.exception.index, at)
            self.assertRaises(errors.InvalidTable, told, None, TEAM[:1], None)
            self.assertRaises(errors.InvalidTeam, told, LINK, TEAM[:1] + (None,), None)

    def test_others_do_not_ask_for_a_whole_team(self):
        some = TEAM[:1]
        self.assertIs(together.is_whole_team(LINK, some), False)
        self.assertEqual(together.summed_table(LINK, some), (((1, 2), (0, 1)), ((0, 1), (0, 1))))
        self.assertEqual(together.team_cost(LINK, some, (((3, 1),),)), (18, 1))
        self.assertEqual(together.greatest_ratio_near(LINK, some, 3), (3, True))
        self.assertIs(together.has_ratios_up_to(LINK, some, (1, 1)), True)
        self.assertEqual(together.damped_table(LINK, some, (1, 1)), (((0, 1), (1, 2)), ((0, 1), (1, 1))))


class NotWholeMethods(unittest.TestCase):
    FUNCTIONS = (splits.least_split, splits.least_cost, splits.best_price)

    def test_it_is_raised(self):
        for told in self.FUNCTIONS:
            for row in (ROW, ((0, 1), (0, 1)), FIRST[0], SECOND[0]):
                for method in ((AID,), (AID,) * 8, (AID, (FIRST, (((9, 1),),)))):
                    with self.assertRaises(errors.NotWhole) as caught:
                        told(LINK, method, row)
                    self.assertIs(type(caught.exception), errors.NotWhole)
                    self.assertRaises(errors.NotWhole, lambda: told(row=row, method=method, table=LINK))

    def test_it_is_last(self):
        for told in self.FUNCTIONS:
            for row, at in (((1, 1), 0), (ROW[:1], None), (list(ROW), None), ((ROW[0], (2, 4)), 1)):
                with self.assertRaises(errors.InvalidRow) as caught:
                    told(LINK, (AID,), row)
                self.assertEqual(caught.exception.index, at)
            self.assertRaises(errors.InvalidTable, told, None, (AID,), None)
            self.assertRaises(errors.InvalidMethod, told, LINK, (AID, None), None)

    def test_others_do_not_ask_for_a_whole_method(self):
        for told, kinds in functions():
            if told.__module__ in ("splitcosts.methods", "splitcosts.splits") and told not in self.FUNCTIONS:
                arguments = good(kinds) | {"method": (AID,)}
                if "split" in kinds:
                    arguments["split"] = (((1, 1),),)
                told(**arguments)


class NotWholeFactors(unittest.TestCase):
    METHODS = ((AID,), (AID,) * 8, (AID, (FIRST, (((9, 1),),))))
    ASKS = ((factors.has_factor, "most"), (factors.beyond, "most"), (factors.factor_near, "many"), (factors.ends_at_once, None))

    def test_it_is_raised(self):
        for told, last in self.ASKS:
            for method in self.METHODS:
                arguments = {"table": LINK, "method": method} | ({last: GOOD[last]} if last else {})
                for call in (lambda: told(*arguments.values()), lambda: told(**dict(reversed(list(arguments.items()))))):
                    with self.assertRaises(errors.NotWhole) as caught:
                        call()
                    self.assertIs(type(caught.exception), errors.NotWhole)
                    self.assertEqual(vars(caught.exception), {})

    def test_it_is_last(self):
        for told, last in self.ASKS:
            self.assertRaises(errors.InvalidTable, told, SWAP, (AID,), *([None] if last else []))
            self.assertRaises(errors.InvalidMethod, told, LINK, (AID, None), *([None] if last else []))
            for value, error, _, _ in WRONG.get(last, ()):
                self.assertRaises(error, told, LINK, (AID,), value)


class NotWholeSpans(unittest.TestCase):
    ASKS = ((twospans.product_up_to, "most"), (twospans.product_pair, "most"), (twospans.product_near, "many"))

    def test_it_is_raised(self):
        three, units = h.table(((2, -1, 0), (-1, 2, -1), (0, -1, 2))), h.table(h.units(3))
        other = (((1, 1), (1, 1), (0, 1)),)
        for told, last in self.ASKS:
            for table, first, second in ((LINK, FIRST, FIRST), (LINK, FIRST, (((-3, 7), (0, 1)),)), (three, units[:1], units[1:2]),
                                         (three, units[:2], other), (three, other, units[:2]), (three, units[:2], units[:2])):
                for call in (lambda: told(table, first, second, GOOD[last]),
                             lambda: told(**{last: GOOD[last]}, second=second, first=first, table=table)):
                    with self.assertRaises(errors.NotWhole) as caught:
                        call()
                    self.assertIs(type(caught.exception), errors.NotWhole)
                    self.assertEqual(vars(caught.exception), {})
            told(three, units[:2], units[2:], GOOD[last])
            told(three, units[:2], units, GOOD[last])

    def test_it_is_last(self):
        for told, last in self.ASKS:
            self.assertRaises(errors.InvalidTable, told, SWAP, FIRST, FIRST, None)
            for first, second, at in ((FIRST + FIRST, FIRST, 1), (FIRST, FIRST + (None,), 1), (FIRST, (), None)):
                with self.assertRaises(errors.InvalidRows) as caught:
                    told(LINK, first, second, None)
                self.assertEqual(caught.exception.index, at)
            for value, error, _, _ in WRONG[last]:
                self.assertRaises(error, told, LINK, FIRST, FIRST, value)

    def test_common_rows_do_not_ask_for_it(self):
        self.assertEqual(len(twospans.common_rows(LINK, FIRST, FIRST)), 1)
        self.assertEqual(len(twospans.common_rows(LINK, FIRST, (((-3, 7), (0, 1)),))), 1)


class InnerIndexes(unittest.TestCase):
    def test_a_table_of_one_row_has_none(self):
        for inner_indexes in ((), (0,), (1,), (0, 0), (True,), None):
            for told, more in ((inner.harmonic_rows, ()), (inner.outer_table, ()), (inner.extended, (None,)),
                               (inner.ends_with, (None,))):
                with self.assertRaises(errors.InvalidLot) as caught:
                    told((((2, 1),),), inner_indexes, *more)
                self.assertIs(caught.exception.given, inner_indexes)

    def test_by_the_size_of_the_table(self):
        for many in range(2, 6):
            units = h.table(h.units(many))
            everything = tuple(range(many))
            for lot in ((many,), everything, everything[::-1], everything + (many,), (0, many), (1, 0), (-1,), (0, False)):
                with self.assertRaises(errors.InvalidLot) as caught:
                    inner.harmonic_rows(units, lot)
                self.assertIs(caught.exception.given, lot)
            for lot in (everything[1:], everything[:-1], (many - 1,), (0,)):
                self.assertEqual(len(inner.harmonic_rows(units, lot)), many - len(lot))

    def test_numbers_are_as_many_as_outer_indexes(self):
        for many in range(2, 6):
            units = h.table(h.units(many))
            for count in range(1, many):
                lot = tuple(range(count))
                for size in range(7):
                    numbers = ((3, 1),) * size
                    if size == many - count:
                        self.assertEqual(inner.extended(units, lot, numbers), ((0, 1),) * count + numbers)
                        continue
                    with self.assertRaises(errors.InvalidRow) as caught:
                        inner.extended(units, lot, numbers)
                    self.assertIsNone(caught.exception.index)
                with self.assertRaises(errors.InvalidRow) as caught:
                    inner.extended(units, lot, ((3, 1),) * (many - count - 1) + ((2, 4),))
                self.assertEqual(caught.exception.index, many - count - 1)


class NotSafe(unittest.TestCase):
    def test_it_is_raised(self):
        for solver in UNSAFE:
            for call in (lambda: aids.smoother_aid(LINK, solver), lambda: aids.smoother_aid(solver=solver, table=LINK)):
                with self.assertRaises(errors.NotSafe) as caught:
                    call()
                self.assertIs(type(caught.exception), errors.NotSafe)

    def test_it_is_last(self):
        self.assertRaises(errors.InvalidTable, aids.smoother_aid, SWAP, UNSAFE[0])
        self.assertRaises(errors.InvalidSolver, aids.smoother_aid, LINK, list(UNSAFE[0]))
        self.assertRaises(errors.InvalidSolver, aids.smoother_aid, LINK, h.table(((5,),)))

    def test_others_do_not_ask_for_it(self):
        for solver in UNSAFE:
            self.assertEqual(len(aids.gap(LINK, FIRST + SECOND, solver)), 2)
            self.assertEqual(len(aids.unsafe_row(LINK, FIRST + SECOND, solver)), 2)


class TooMany(unittest.TestCase):
    def test_it_is_raised(self):
        for many in range(5, 9):
            for call in (lambda method: methods.there_and_back(LINK, method),
                         lambda method: methods.there_and_back(method=method, table=LINK)):
                with self.assertRaises(errors.TooMany) as caught:
                    call((METHOD * 4)[:many])
                self.assertIs(type(caught.exception), errors.TooMany)
                self.assertEqual((caught.exception.given, type(caught.exception.given)), (2 * many, int))

    def test_four_aids_are_let(self):
        for many in range(1, 5):
            self.assertEqual(len(methods.there_and_back(LINK, (METHOD * 2)[:many])), 2 * many)

    def test_it_is_last(self):
        self.assertRaises(errors.InvalidTable, methods.there_and_back, SWAP, (AID,) * 5)
        for method, at in (((AID,) * 5 + (None,), 5), ((AID,) * 9, 8), ([AID] * 5, None)):
            with self.assertRaises(errors.InvalidMethod) as caught:
                methods.there_and_back(LINK, method)
            self.assertEqual(caught.exception.index, at)


class IsTable(unittest.TestCase):
    def test_it_raises_nothing_for_a_value(self):
        for value in wrong_tables():
            self.assertIs(tables.is_table(value), False)
            self.assertIs(tables.is_table(value=value), False)
        for name in ("team", "method", "rows", "row", "lots", "aid"):
            for value, _, _, _ in WRONG[name]:
                self.assertIs(type(tables.is_table(value)), bool)
            self.assertIs(tables.is_table(GOOD[name]), name == "rows")

    def test_tables(self):
        for value in list(wrong_uneven()) + [LINK, SWAP, LOWER, h.table(((0,),)), h.table(((-1,),))]:
            self.assertIs(tables.is_table(value), True)
        for many in range(1, 7):
            table = h.table(h.units(many))
            self.assertIs(tables.is_table(table), many < 6)
            self.assertIs(tables.is_table(((((0, 1),) * many),) * many), many < 6)
            self.assertIs(tables.is_table(list(table)), False)
            self.assertIs(tables.is_table(table[:-1]), False)
            self.assertIs(tables.is_table(table + table[:1]), False)
        self.assertIs(tables.is_table((((10 ** 399, 10 ** 399 - 1),),)), True)


class IsAid(unittest.TestCase):
    def test_it_raises_nothing_for_a_value(self):
        for value, _, _, _ in WRONG["aid"]:
            self.assertIs(aids.is_aid(LINK, value), False)
            self.assertIs(aids.is_aid(value=value, table=LINK), False)
        for value, _, _, _ in WRONG["method"]:
            self.assertIs(type(aids.is_aid(LINK, value)), bool)

    def test_the_table_is_checked(self):
        for value, _, _, _ in WRONG["table"]:
            for aid in (AID, None, ()):
                with self.assertRaises(errors.InvalidTable) as caught:
                    aids.is_aid(value, aid)
                self.assertIs(caught.exception.given, value)

    def test_aids(self):
        for aid in METHOD + TEAM + ((FIRST, (((1001, 1000),),)), (FIRST, (((10 ** 399, 1),),)), (FIRST + SECOND, LINK)):
            self.assertIs(aids.is_aid(LINK, aid), True)


class Solvers(unittest.TestCase):
    """A solver has as many rows as `rows` has, and where there are none as the table has."""

    def test_of_some_rows(self):
        three = h.table(h.units(3))
        for count in range(1, 4):
            for size in range(1, 6):
                solver = h.table(h.units(size))
                for told in (aids.gap, aids.unsafe_row):
                    if size == count:
                        told(three, three[:count], solver)
                        continue
                    with self.assertRaises(errors.InvalidSolver) as caught:
                        told(three, three[:count], solver)
                    self.assertIs(caught.exception.given, solver)

    def test_of_all_rows(self):
        for size in range(1, 6):
            solver = h.table(h.units(size))
            if size == 3:
                self.assertEqual(aids.smoother_aid(h.table(h.units(3)), solver), (solver, solver))
                continue
            with self.assertRaises(errors.InvalidSolver) as caught:
                aids.smoother_aid(h.table(h.units(3)), solver)
            self.assertIs(caught.exception.given, solver)


class IsTeam(unittest.TestCase):
    def test_it_raises_nothing_for_a_value(self):
        for value, _, _, _ in WRONG["team"]:
            self.assertIs(together.is_team(LINK, value), False)
            self.assertIs(together.is_team(value=value, table=LINK), False)

    def test_teams(self):
        for team in (TEAM, TEAM[:1], TEAM * 4, (AID,), (AID,) * 8, ((FIRST + SECOND, LINK),), ((FIRST, (((1, 9),),)),)):
            self.assertIs(together.is_team(LINK, team), True)
        self.assertIs(together.is_team(LINK, TEAM * 4 + (AID,)), False)

    def test_the_table_is_checked(self):
        for value, _, _, _ in WRONG["table"]:
            for team in (TEAM, None, ()):
                with self.assertRaises(errors.InvalidTable) as caught:
                    together.is_team(value, team)
                self.assertIs(caught.exception.given, value)

    def test_gaps_are_not_asked_to_be_positive(self):
        self.assertIs(together.is_team(LINK, ((FIRST, (((1, 10 ** 9),),)),)), True)

    def test_teams_of_tables_of_1_to_5_rows(self):
        for many in range(1, 6):
            units = h.table(h.units(many))
            table = h.table([[2 * x for x in row] for row in h.units(many)])
            for count in range(1, many + 1):
                team = ((units[:count], h.table(h.units(count))),)
                self.assertIs(together.is_team(table, team), True)
                self.assertIs(together.is_team(table, ((units[:count], h.table(h.units(count % 5 + 1))),)), False)
                self.assertIs(together.is_team(table, ((list(units[:count]), h.table(h.units(count))),)), False)
            self.assertIs(together.is_team(table, ((units + units[:1], h.table(h.units(min(many + 1, 5)))),)), False)


class Edges(unittest.TestCase):
    def test_tables_of_six_rows(self):
        six = h.table(h.units(6))
        for told, kinds in functions():
            names = list(kinds)
            if names[0] != "value":
                with self.assertRaises(errors.InvalidForm if names[0] == "form" else errors.InvalidTable) as caught:
                    told(six, *list(good(kinds).values())[1:])
                self.assertIs(caught.exception.given, six)

    def test_rounds(self):
        for rounds in range(41):
            self.assertEqual(methods.run(LINK, (AID,), ((0, 1), (2, 1)), rounds), ((1 if rounds else 0, 1), (2, 1)))
        for rounds in (-1, 41, True, False, None, (1, 1), "1"):
            with self.assertRaises(errors.InvalidNumber) as caught:
                methods.run(LINK, METHOD, ROW, rounds)
            self.assertIs(caught.exception.given, rounds)

    def test_rows_are_checked_by_the_size_of_the_table(self):
        """The first place that is wrong, for tables of 1 to 5 rows."""
        for many in range(1, 6):
            units = h.table(h.units(many))
            method = aids.point_aids(units)
            for size in range(7):
                row = ((1, 1),) * size
                for call in (lambda: tables.worth(units, row), lambda: tables.energy_product(units, units[0], row),
                             lambda: aids.step(units, method[0], row), lambda: methods.run(units, method, row, 1),
                             lambda: splits.price_bound(units, method, row, units[0])):
                    if size == many:
                        call()
                        continue
                    with self.assertRaises(errors.InvalidRow) as caught:
                        call()
                    self.assertIsNone(caught.exception.index)

    def test_the_row_stands_ahead_of_the_other(self):
        for row, other, at in (((1, 1), ROW[:1], 0), ((ROW[0], 1), None, 1), (None, (1, 1), None)):
            for told in (lambda: tables.energy_product(LINK, row, other), lambda: splits.price_bound(LINK, METHOD, row, other)):
                with self.assertRaises(errors.InvalidRow) as caught:
                    told()
                self.assertEqual(caught.exception.index, at)

    def test_counts(self):
        three = h.table(h.units(3))
        smoother = three
        for kept in range(4):
            rows = three[:kept]
            for count in (kept - 1, -1, 4, True, False, None, (kept, 1), "1"):
                for told, last in ((coarse.best_rows, (0, 1)), (coarse.barring_rows, (0, 1)), (coarse.best_factor_near, 3)):
                    with self.assertRaises(errors.InvalidNumber) as caught:
                        told(three, smoother, rows, count, last)
                    self.assertIs(caught.exception.given, count)
            for count in range(kept, 4):
                found = coarse.best_rows(three, smoother, rows, count, (0, 1))
                self.assertEqual((len(found), found[:kept]), (count, rows))
                self.assertIsNone(coarse.barring_rows(three, smoother, rows, count, (0, 1)))

    def test_count_is_checked_ahead_of_what_stands_behind_it(self):
        with self.assertRaises(errors.InvalidNumber) as caught:
            coarse.best_factor_near(LINK, LOWER, FIRST, 0, 0)
        self.assertEqual(caught.exception.given, 0)
        with self.assertRaises(errors.InvalidNumber) as caught:
            coarse.best_factor_near(LINK, LOWER, FIRST, 3, 0)
        self.assertEqual(caught.exception.given, 3)
        with self.assertRaises(errors.InvalidNumber) as caught:
            coarse.best_factor_near(LINK, LOWER, FIRST, 1, 0)
        self.assertEqual(caught.exception.given, 0)

    def test_a_row_in_the_span_of_those_ahead(self):
        three = h.table(h.units(3))
        rows = three[:2] + (((1, 2), (-5, 3), (0, 1)),) + three[2:]
        for told, last in ((coarse.has_coarse_factor, (0, 1)), (coarse.coarse_beyond, (0, 1)), (coarse.coarse_factor_near, 1)):
            with self.assertRaises(errors.InvalidRows) as caught:
                told(three, three, rows, last)
            self.assertEqual(caught.exception.index, 2)
        with self.assertRaises(errors.InvalidSpans) as caught:
            together.exact_team(three, (three, rows))
        self.assertEqual(caught.exception.index, 1)

    def test_a_smoother_whose_gap_is_nought_somewhere(self):
        for many in range(1, 6):
            table = h.table(h.units(many))
            half = h.table([[x / 2 for x in row] for row in h.units(many)])
            some = h.table([[x * 3 if at else x / 2 for x in row] for at, row in enumerate(h.units(many))])
            near = h.table([[x * 1001 / 2000 for x in row] for row in h.units(many)])
            for smoother in (half, some):
                self.assertRaises(errors.InvalidSmoother, coarse.smoothed_table, table, smoother)
            self.assertEqual(coarse.smoothed_table(table, near)[0][0], (1001 * 1001, 4000))


if __name__ == "__main__":
    unittest.main()
