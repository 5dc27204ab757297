import copy
import inspect
import unittest

import helpers as h
from splitcosts import coarse, errors, together

LINK = h.table(((2, -1), (-1, 2)))
FIRST, SECOND = (((1, 1), (0, 1)),), (((0, 1), (1, 1)),)
AID = (FIRST, (((2, 1),),))
TEAM = (AID, (SECOND, (((2, 1),),)))
LOWER = h.table(((2, 0), (-1, 2)))
ROW = ((1, 1), (1, 2))


class Odd:
    """A value that answers nothing."""

    def refuse(self, *told):
        raise RuntimeError("asked")

    __eq__ = __ne__ = __len__ = __iter__ = __bool__ = __getitem__ = __contains__ = __lt__ = __int__ = refuse
    __hash__ = None


def nested(deep):
    value = 1
    for at in range(deep):
        value = [value] if at % 2 else (value,)
    return value


# What is no tuple at all.
NO_TUPLES = (None, True, False, 0, 1, -1, 10 ** 399, "", "text", b"text", [], [1], {}, {0: 1}, set(), range(2), object(),
             Odd(), len, int, nested(14), {"a": nested(13)}, [(1, 1), (1, 2)], iter(()))
NO_FRACTIONS = NO_TUPLES + ((), (1,), (1, 1, 1), (1, 0), (1, -1), (0, -1), (2, 4), (0, 2), (-2, 2), (True, 1), (1, True),
                            (1, None), ("1", "2"), [1, 2], ((1, 1), 1), (1, (1, 1)), (1, [1]), (Odd(), 1), (1, Odd()),
                            (10 ** 399, 10 ** 398), ((1, 1),), nested(12), (nested(12), 1))
NO_WHOLE_NUMBERS = tuple(value for value in NO_TUPLES if type(value) is not int) + ((), (1,), (1, 1), (2, 1))


def with_wrong(good, wrong):
    """GOOD, a tuple, with WRONG in the place of each of its elements in turn; and where."""
    for at in range(len(good)):
        yield good[:at] + (wrong,) + good[at + 1:], at


def wrong_tables():
    yield from NO_TUPLES
    yield ()
    yield h.table(h.units(6))
    yield [list(row) for row in LINK]
    yield list(LINK)
    yield LINK[:1]
    yield LINK + LINK[:1]
    yield tuple(row[:1] for row in LINK)
    yield tuple(row + row[:1] for row in LINK)
    for wrong in NO_TUPLES + ((), LINK[0][:1], LINK[0] + LINK[0], list(LINK[0])):
        for value, _ in with_wrong(LINK, wrong):
            yield value
    for wrong in NO_FRACTIONS:
        yield (((2, 1), wrong), (wrong, (2, 1)))
        yield ((wrong, (0, 1)), ((0, 1), (2, 1)))
        yield ((wrong,),)


def wrong_forms():
    """Tables, but not alike turned over or not positive."""
    for rows in (((2, 1), (0, 2)), ((2, -1), (1, 2)), ((1, 1), (1, 1)), ((0, 0), (0, 0)), ((0,),), ((-1,),), ((0, 1), (1, 0)),
                 ((-2, 1), (1, -2)), ((1, 2), (2, 1)), ((1, 0, 0), (0, 1, 0), (0, 0, -1)),
                 ((2, -1, -1), (-1, 2, -1), (-1, -1, 2)), ((1, 0, 0, 0), (0, 1, 0, 0), (0, 0, 0, 0), (0, 0, 0, 1))):
        yield h.table(rows)


def wrong_rows(let_none):
    """Rows, and the index."""
    for value in NO_TUPLES:
        yield value, None
    if not let_none:
        yield (), None
    yield list(FIRST), None
    for wrong in NO_TUPLES + ((), ROW[:1], ROW + ROW[:1], list(ROW), ((0, 1), (0, 1)), ((1, 1), (2, 4)), ((1, 0), (1, 1)),
                              ((True, 1), (0, 1)), (1, 1), ROW + (None,)):
        yield (wrong,), 0
        yield FIRST + (wrong,), 1
        yield (wrong, wrong), 0
        yield (wrong,) + SECOND, 0
        yield FIRST + SECOND + (wrong,), 2
    yield FIRST + (((-7, 3), (0, 1)),), 1
    yield FIRST + SECOND + FIRST, 2
    yield FIRST + SECOND + (((1, 1), (1, 1)), 5), 2
    yield FIRST + FIRST + (5,), 1


def wrong_row():
    for value in NO_TUPLES:
        yield value, None
    for value in ((), ROW[:1], ROW + ROW[:1], list(ROW), (ROW,)):
        yield value, None
    for wrong in NO_FRACTIONS:
        for value, at in with_wrong(ROW, wrong):
            yield value, at
        yield (wrong, wrong), 0


def wrong_team():
    for value in NO_TUPLES:
        yield value, None
    yield (), None
    yield list(TEAM), None
    for wrong in wrong_team_aids():
        yield (wrong,), 0
        yield TEAM + (wrong,), 2
        yield TEAM + (wrong, wrong), 2
    yield (AID,) * 9, 8
    yield (AID,) * 12, 8
    yield (AID,) * 8 + (None,), 8
    yield (AID,) * 4 + (None,) + (AID,) * 4, 4
    yield (None,) * 9, 0
    yield AID, 0


def wrong_team_aids():
    rows, solver = AID
    yield from NO_TUPLES
    yield from ((), (rows,), (rows, solver, solver), [rows, solver], (solver, rows), (rows, None), (rows, (2, 1)))
    for value, _ in wrong_rows(False):
        yield (value, solver)
        yield (value, LINK)
    for value in wrong_tables():
        yield (rows, value)
        yield (FIRST + SECOND, value)
    for value in wrong_forms():
        yield (h.table(h.units(len(value))) if len(value) == 2 else rows, value)
    yield (rows, LINK)
    yield (FIRST + SECOND, solver)
    yield ((((1, 1),),), solver)
    yield (h.table(h.units(3))[:1], solver)


def wrong_spans():
    for value in NO_TUPLES:
        yield value, None
    yield (), None
    yield [FIRST], None
    for value, _ in wrong_rows(False):
        yield (value,), 0
        yield (FIRST, value, value), 1
    yield (FIRST,) * 9, 8
    yield (FIRST,) * 8 + (None,), 8
    yield (FIRST, None) + (FIRST,) * 7, 1
    yield FIRST, 0


def wrong_parts():
    good = (((1, 1),), ((2, 1),))
    for value in NO_TUPLES:
        yield value, None
    for value in ((), good[:1], good + good[:1], list(good)):
        yield value, None
    for wrong in NO_FRACTIONS:
        for value, at in with_wrong(good, (wrong,)):
            yield value, at
    for wrong in NO_TUPLES + ((), ((1, 1), (1, 1)), [(1, 1)], (1, 1)):
        for value, at in with_wrong(good, wrong):
            yield value, at
        yield (wrong, wrong), 0


def wrong_smoothers():
    yield from wrong_tables()
    for rows in (((1, 0), (0, 1)), ((1, 0), (-1, 1)), ((0, 0), (0, 0)), ((-2, 0), (0, -2)), ((1, 0), (0, 9)), ((1, 5), (-6, 9)),
                 ((1, 0, 0), (0, 1, 0), (0, 0, 1)), ((5,),)):
        yield h.table(rows)


def given(error, values):
    return [(value, error, "given", value) for value in values]


def index(error, values):
    return [(value, error, "index", at) for value, at in values]


NO_COUNTS = NO_WHOLE_NUMBERS + (-1, 3, 10 ** 6)
WRONG = {
    "table": given(errors.InvalidTable, list(wrong_tables()) + list(wrong_forms())),
    "team": index(errors.InvalidTeam, wrong_team()),
    "spans": index(errors.InvalidSpans, wrong_spans()),
    "parts": index(errors.InvalidParts, wrong_parts()),
    "row": index(errors.InvalidRow, wrong_row()),
    "number": given(errors.InvalidAmount, NO_FRACTIONS + ((-1, 1), (-1, 10 ** 9))),
    "damping": given(errors.InvalidAmount, NO_FRACTIONS + ((-1, 1), (-1, 10 ** 9), (0, 1))),
    "root": given(errors.InvalidShare, NO_FRACTIONS + ((-1, 2), (1, 1), (2, 1), (10 ** 9 + 1, 10 ** 9))),
    "most": given(errors.InvalidShare, NO_FRACTIONS + ((-1, 2), (1, 1), (2, 1), (10 ** 9 + 1, 10 ** 9))),
    "many": given(errors.InvalidNumber, NO_WHOLE_NUMBERS + (0, -1, 10 ** 6 + 1, 10 ** 9)),
    "smoother": given(errors.InvalidSmoother, wrong_smoothers()),
    "coarse": index(errors.InvalidRows, wrong_rows(True)),
    "kept": index(errors.InvalidRows, wrong_rows(True)),
    "count": given(errors.InvalidNumber, NO_COUNTS + (0,)),
}
GOOD = {"table": LINK, "team": TEAM, "spans": (FIRST, SECOND), "parts": (((1, 1),), ((2, 1),)), "row": ROW, "number": (1, 2),
        "damping": (1, 3), "root": (1, 2), "most": (1, 9), "many": 7, "smoother": LOWER, "coarse": FIRST, "kept": FIRST,
        "count": 2, "value": TEAM}
TOGETHER = {
    "is_team": "table value", "exact_team": "table spans", "summed_table": "table team", "is_whole_team": "table team",
    "team_cost": "table team parts", "least_team_cost": "table team row", "team_split": "table team row",
    "team_prices": "table team row", "has_ratios_from": "table team number", "has_ratios_up_to": "table team number",
    "least_ratio_near": "table team many", "greatest_ratio_near": "table team many", "damped_table": "table team damping",
    "dies_with": "table team damping", "unfalling": "table team damping", "falls_to": "table team damping root",
}
COARSE = {
    "two_grids": "table smoother coarse", "smoothed_table": "table smoother", "measure": "table smoother most",
    "has_coarse_factor": "table smoother coarse most", "coarse_beyond": "table smoother coarse most",
    "coarse_factor_near": "table smoother coarse many", "least_count": "table smoother most",
    "best_rows": "table smoother kept count most", "barring_rows": "table smoother kept count most",
    "best_factor_near": "table smoother kept count many",
}


def functions():
    for module, told in ((together, TOGETHER), (coarse, COARSE)):
        for name, words in told.items():
            yield getattr(module, name), words.split()


class Wrong(unittest.TestCase):
    def raises(self, told, arguments, wrong):
        """Check the error for what stands wrong among the arguments, which are passed by position and by name."""
        _, error, attribute, kept = wrong
        for call in (lambda: told(*arguments.values()), lambda: told(**arguments)):
            try:
                found = call()
            except errors.CostError as caught:
                self.assertIs(type(caught), error)
                self.assertEqual(list(vars(caught)), [attribute])
                if attribute == "given":
                    self.assertIs(getattr(caught, attribute), kept)
                else:
                    self.assertIs(type(getattr(caught, attribute)), type(kept))
                    self.assertEqual(getattr(caught, attribute), kept)
            else:
                self.fail(f"{told.__name__} returned {found!r}")

    def test_the_parameters(self):
        for told, names in functions():
            found = inspect.signature(told).parameters
            self.assertEqual(list(found), names)
            self.assertEqual({part.kind for part in found.values()}, {inspect.Parameter.POSITIONAL_OR_KEYWORD})

    def test_each_wrong_value_of_each_argument(self):
        for told, names in functions():
            for name in names:
                for at, wrong in enumerate(WRONG.get(name, ())):
                    with self.subTest(function=told.__name__, argument=name, at=at):
                        self.raises(told, {part: GOOD[part] for part in names} | {name: wrong[0]}, wrong)

    def test_the_order(self):
        for told, names in functions():
            for at, name in enumerate(names):
                for wrong in WRONG.get(name, ())[::40]:
                    with self.subTest(function=told.__name__, argument=name):
                        behind = {part: WRONG[part][0][0] for part in names[at + 1:] if part in WRONG}
                        self.raises(told, {part: GOOD[part] for part in names} | {name: wrong[0]} | behind, wrong)

    def test_good_arguments_are_let(self):
        for told, names in functions():
            arguments = {name: GOOD[name] for name in names}
            kept = copy.deepcopy(arguments)
            found = told(*arguments.values())
            self.assertEqual(told(**arguments), found)
            self.assertEqual(told(*arguments.values()), found)
            self.assertEqual(arguments, kept)

    def test_the_ends_of_what_is_let(self):
        self.assertEqual(together.least_ratio_near(LINK, TEAM, 1), (0, False))
        self.assertEqual(together.least_ratio_near(LINK, TEAM, 10 ** 6), (500000, True))
        self.assertIs(together.has_ratios_from(LINK, TEAM, (0, 1)), True)
        self.assertIs(together.dies_with(LINK, TEAM, (1, 10 ** 399)), True)
        self.assertIs(together.dies_with(LINK, TEAM, (10 ** 399, 1)), False)
        self.assertIs(together.falls_to(LINK, TEAM, (1, 1), (0, 1)), False)
        self.assertIs(together.falls_to(LINK, TEAM, (1, 1), (10 ** 399, 10 ** 399 + 1)), True)
        self.assertIs(coarse.has_coarse_factor(LINK, LOWER, (), (10 ** 399, 10 ** 399 + 1)), True)
        self.assertEqual(coarse.best_factor_near(LINK, LOWER, (), 2, 1), (0, True))
        for kept in ((), FIRST, FIRST + SECOND):
            for count in range(len(kept), 3):
                self.assertLess(coarse.best_factor_near(LINK, LOWER, kept, count, 10 ** 6)[0], 10 ** 6)


class Great(unittest.TestCase):
    """What was returned may be passed, whatever the size of its numbers."""

    def test_what_was_returned_is_let(self):
        great = 10 ** 399
        table = (((great, great - 1), (-1, 3)), ((-1, 3), (1, great + 1)))
        table = together.summed_table(h.table(h.units(2)), (((FIRST + SECOND), self.positive(table)),))
        team = together.exact_team(table, (FIRST, SECOND, FIRST + SECOND))
        row = together.unfalling(table, team, (great, great + 7))
        prices = together.team_prices(table, team, row)
        split = together.team_split(table, team, prices)
        self.assertEqual(together.team_cost(table, team, split), together.least_team_cost(table, team, prices))
        self.assertEqual(together.greatest_ratio_near(table, team, 1)[0], 2)
        lower = (table[0][:1] + ((0, 1),), table[1])
        smoothed = coarse.smoothed_table(table, lower)
        self.assertEqual(coarse.coarse_factor_near(smoothed, smoothed, (row,), 10 ** 6), (0, True))
        beyond = coarse.coarse_beyond(table, lower, (), (0, 1))
        self.assertIs(coarse.has_coarse_factor(table, lower, (beyond,), (0, 1)), False)
        found = coarse.best_rows(table, lower, (), 1, (0, 1))
        self.assertEqual(coarse.best_rows(table, lower, found, 1, (0, 1)), found)
        self.assertEqual(coarse.coarse_factor_near(table, lower, found, 1), (0, True))

    def positive(self, table):
        rows = h.grid(table)
        return h.table(h.product(rows, h.turned(rows)))


class NotWhole(unittest.TestCase):
    FUNCTIONS = (together.least_team_cost, together.team_split, together.team_prices)

    def test_it_is_raised(self):
        for told in self.FUNCTIONS:
            for row in (ROW, ((0, 1), (0, 1)), FIRST[0]):
                for team in (TEAM[:1], TEAM[1:], TEAM[:1] * 8):
                    with self.assertRaises(errors.NotWhole) as caught:
                        told(LINK, team, row)
                    self.assertIs(type(caught.exception), errors.NotWhole)
                    self.assertRaises(errors.NotWhole, lambda: told(row=row, team=team, table=LINK))

    def test_it_is_last(self):
        for told in self.FUNCTIONS:
            for row, at in (((1, 1), 0), (ROW[:1], None), (list(ROW), None), ((ROW[0], (2, 4)), 1)):
                with self.assertRaises(errors.InvalidRow) as caught:
                    told(LINK, TEAM[:1], row)
                self.assertEqual(caught.exception.index, at)
            self.assertRaises(errors.InvalidTable, told, None, TEAM[:1], None)
            self.assertRaises(errors.InvalidTeam, told, LINK, TEAM[:1] + (None,), None)

    def test_others_do_not_ask_for_a_whole_team(self):
        some = TEAM[:1]
        self.assertIs(together.is_whole_team(LINK, some), False)
        self.assertEqual(together.summed_table(LINK, some), (((1, 2), (0, 1)), ((0, 1), (0, 1))))
        self.assertEqual(together.team_cost(LINK, some, (((3, 1),),)), (18, 1))
        self.assertEqual(together.greatest_ratio_near(LINK, some, 3), (3, True))
        self.assertIs(together.has_ratios_up_to(LINK, some, (1, 1)), True)
        self.assertEqual(together.damped_table(LINK, some, (1, 1)), (((0, 1), (1, 2)), ((0, 1), (1, 1))))


class IsTeam(unittest.TestCase):
    def test_it_raises_nothing_for_a_value(self):
        for value, _, _, _ in WRONG["team"]:
            self.assertIs(together.is_team(LINK, value), False)
            self.assertIs(together.is_team(value=value, table=LINK), False)

    def test_teams(self):
        for team in (TEAM, TEAM[:1], TEAM * 4, (AID,), (AID,) * 8, ((FIRST + SECOND, LINK),), ((FIRST, (((1, 9),),)),)):
            self.assertIs(together.is_team(LINK, team), True)
        self.assertIs(together.is_team(LINK, TEAM * 4 + (AID,)), False)

    def test_the_table_is_checked(self):
        for value, _, _, _ in WRONG["table"]:
            for team in (TEAM, None, ()):
                with self.assertRaises(errors.InvalidTable) as caught:
                    together.is_team(value, team)
                self.assertIs(caught.exception.given, value)

    def test_gaps_are_not_asked_to_be_positive(self):
        self.assertIs(together.is_team(LINK, ((FIRST, (((1, 10 ** 9),),)),)), True)

    def test_teams_of_tables_of_1_to_5_rows(self):
        for many in range(1, 6):
            units = h.table(h.units(many))
            table = h.table([[2 * x for x in row] for row in h.units(many)])
            for count in range(1, many + 1):
                team = ((units[:count], h.table(h.units(count))),)
                self.assertIs(together.is_team(table, team), True)
                self.assertIs(together.is_team(table, ((units[:count], h.table(h.units(count % 5 + 1))),)), False)
                self.assertIs(together.is_team(table, ((list(units[:count]), h.table(h.units(count))),)), False)
            self.assertIs(together.is_team(table, ((units + units[:1], h.table(h.units(min(many + 1, 5)))),)), False)


class Edges(unittest.TestCase):
    def test_tables_of_six_rows(self):
        six = h.table(h.units(6))
        for told, names in functions():
            with self.assertRaises(errors.InvalidTable) as caught:
                told(six, *[GOOD[name] for name in names[1:]])
            self.assertIs(caught.exception.given, six)

    def test_counts(self):
        three = h.table(h.units(3))
        smoother = three
        for kept in range(4):
            rows = three[:kept]
            for count in (kept - 1, -1, 4, True, False, None, (kept, 1), "1"):
                for told, last in ((coarse.best_rows, (0, 1)), (coarse.barring_rows, (0, 1)), (coarse.best_factor_near, 3)):
                    with self.assertRaises(errors.InvalidNumber) as caught:
                        told(three, smoother, rows, count, last)
                    self.assertIs(caught.exception.given, count)
            for count in range(kept, 4):
                found = coarse.best_rows(three, smoother, rows, count, (0, 1))
                self.assertEqual((len(found), found[:kept]), (count, rows))
                self.assertIsNone(coarse.barring_rows(three, smoother, rows, count, (0, 1)))

    def test_count_is_checked_ahead_of_what_stands_behind_it(self):
        with self.assertRaises(errors.InvalidNumber) as caught:
            coarse.best_factor_near(LINK, LOWER, FIRST, 0, 0)
        self.assertEqual(caught.exception.given, 0)
        with self.assertRaises(errors.InvalidNumber) as caught:
            coarse.best_factor_near(LINK, LOWER, FIRST, 3, 0)
        self.assertEqual(caught.exception.given, 3)
        with self.assertRaises(errors.InvalidNumber) as caught:
            coarse.best_factor_near(LINK, LOWER, FIRST, 1, 0)
        self.assertEqual(caught.exception.given, 0)

    def test_a_row_in_the_span_of_those_ahead(self):
        three = h.table(h.units(3))
        rows = three[:2] + (((1, 2), (-5, 3), (0, 1)),) + three[2:]
        for told, last in ((coarse.has_coarse_factor, (0, 1)), (coarse.coarse_beyond, (0, 1)), (coarse.coarse_factor_near, 1)):
            with self.assertRaises(errors.InvalidRows) as caught:
                told(three, three, rows, last)
            self.assertEqual(caught.exception.index, 2)
        with self.assertRaises(errors.InvalidSpans) as caught:
            together.exact_team(three, (three, rows))
        self.assertEqual(caught.exception.index, 1)

    def test_a_smoother_whose_gap_is_nought_somewhere(self):
        for many in range(1, 6):
            table = h.table(h.units(many))
            half = h.table([[x / 2 for x in row] for row in h.units(many)])
            some = h.table([[x * 3 if at else x / 2 for x in row] for at, row in enumerate(h.units(many))])
            near = h.table([[x * 1001 / 2000 for x in row] for row in h.units(many)])
            for smoother in (half, some):
                self.assertRaises(errors.InvalidSmoother, coarse.smoothed_table, table, smoother)
            self.assertEqual(coarse.smoothed_table(table, near)[0][0], (1001 * 1001, 4000))


if __name__ == "__main__":
    unittest.main()
