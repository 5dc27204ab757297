"""Values that are wrong for an argument, of each kind that the interface names, and what their errors keep."""

import helpers as h
from splitcosts import aids, certificates, coarse, colours, errors, factors, inner, levels, methods, smoothers, splits, tables
from splitcosts import together, twospans

LINK = h.table(((2, -1), (-1, 2)))
FIRST, SECOND = (((1, 1), (0, 1)),), (((0, 1), (1, 1)),)
AID = (FIRST, (((2, 1),),))
TEAM = (AID, (SECOND, (((2, 1),),)))
LOWER = h.table(((2, 0), (-1, 2)))
ROW = ((1, 1), (1, 2))
METHOD = (AID, (FIRST + SECOND, LOWER))
SWAP = h.table(((0, 1), (1, 0)))


class Odd:
    """A value that answers nothing."""

    def refuse(self, *told):
        raise RuntimeError("asked")

    __eq__ = __ne__ = __len__ = __iter__ = __bool__ = __getitem__ = __contains__ = __lt__ = __int__ = refuse
    __hash__ = None


def nested(deep):
    value = 1
    for at in range(deep):
        value = [value] if at % 2 else (value,)
    return value


# What is no tuple at all.
NO_TUPLES = (None, True, False, 0, 1, -1, 10 ** 399, "", "text", b"text", [], [1], {}, {0: 1}, set(), range(2), object(),
             Odd(), len, int, nested(14), {"a": nested(13)}, [(1, 1), (1, 2)], iter(()))
NO_FRACTIONS = NO_TUPLES + ((), (1,), (1, 1, 1), (1, 0), (1, -1), (0, -1), (2, 4), (0, 2), (-2, 2), (True, 1), (1, True),
                            (1, None), ("1", "2"), [1, 2], ((1, 1), 1), (1, (1, 1)), (1, [1]), (Odd(), 1), (1, Odd()),
                            (10 ** 399, 10 ** 398), ((1, 1),), nested(12), (nested(12), 1))
NO_WHOLE_NUMBERS = tuple(value for value in NO_TUPLES if type(value) is not int) + ((), (1,), (1, 1), (2, 1))


def with_wrong(good, wrong):
    """GOOD, a tuple, with WRONG in the place of each of its elements in turn; and where."""
    for at in range(len(good)):
        yield good[:at] + (wrong,) + good[at + 1:], at


def wrong_tables():
    yield from NO_TUPLES
    yield ()
    yield h.table(h.units(6))
    yield [list(row) for row in LINK]
    yield list(LINK)
    yield LINK[:1]
    yield LINK + LINK[:1]
    yield tuple(row[:1] for row in LINK)
    yield tuple(row + row[:1] for row in LINK)
    for wrong in NO_TUPLES + ((), LINK[0][:1], LINK[0] + LINK[0], list(LINK[0])):
        for value, _ in with_wrong(LINK, wrong):
            yield value
    for wrong in NO_FRACTIONS:
        yield (((2, 1), wrong), (wrong, (2, 1)))
        yield ((wrong, (0, 1)), ((0, 1), (2, 1)))
        yield ((wrong,),)


def wrong_forms():
    """Tables, but not alike turned over or not positive."""
    for rows in (((2, 1), (0, 2)), ((2, -1), (1, 2)), ((1, 1), (1, 1)), ((0, 0), (0, 0)), ((0,),), ((-1,),), ((0, 1), (1, 0)),
                 ((-2, 1), (1, -2)), ((1, 2), (2, 1)), ((1, 0, 0), (0, 1, 0), (0, 0, -1)),
                 ((2, -1, -1), (-1, 2, -1), (-1, -1, 2)), ((1, 0, 0, 0), (0, 1, 0, 0), (0, 0, 0, 0), (0, 0, 0, 1))):
        yield h.table(rows)


def wrong_rows(let_none):
    """Rows, and the index."""
    for value in NO_TUPLES:
        yield value, None
    if not let_none:
        yield (), None
    yield list(FIRST), None
    for wrong in NO_TUPLES + ((), ROW[:1], ROW + ROW[:1], list(ROW), ((0, 1), (0, 1)), ((1, 1), (2, 4)), ((1, 0), (1, 1)),
                              ((True, 1), (0, 1)), (1, 1), ROW + (None,)):
        yield (wrong,), 0
        yield FIRST + (wrong,), 1
        yield (wrong, wrong), 0
        yield (wrong,) + SECOND, 0
        yield FIRST + SECOND + (wrong,), 2
    yield FIRST + (((-7, 3), (0, 1)),), 1
    yield FIRST + SECOND + FIRST, 2
    yield FIRST + SECOND + (((1, 1), (1, 1)), 5), 2
    yield FIRST + FIRST + (5,), 1


def wrong_row():
    for value in NO_TUPLES:
        yield value, None
    for value in ((), ROW[:1], ROW + ROW[:1], list(ROW), (ROW,)):
        yield value, None
    for wrong in NO_FRACTIONS:
        for value, at in with_wrong(ROW, wrong):
            yield value, at
        yield (wrong, wrong), 0


def wrong_team():
    for value in NO_TUPLES:
        yield value, None
    yield (), None
    yield list(TEAM), None
    for wrong in wrong_team_aids():
        yield (wrong,), 0
        yield TEAM + (wrong,), 2
        yield TEAM + (wrong, wrong), 2
    yield (AID,) * 9, 8
    yield (AID,) * 12, 8
    yield (AID,) * 8 + (None,), 8
    yield (AID,) * 4 + (None,) + (AID,) * 4, 4
    yield (None,) * 9, 0
    yield AID, 0


def wrong_team_aids():
    rows, solver = AID
    yield from NO_TUPLES
    yield from ((), (rows,), (rows, solver, solver), [rows, solver], (solver, rows), (rows, None), (rows, (2, 1)))
    for value, _ in wrong_rows(False):
        yield (value, solver)
        yield (value, LINK)
    for value in wrong_tables():
        yield (rows, value)
        yield (FIRST + SECOND, value)
    for value in wrong_forms():
        yield (h.table(h.units(len(value))) if len(value) == 2 else rows, value)
    yield (rows, LINK)
    yield (FIRST + SECOND, solver)
    yield ((((1, 1),),), solver)
    yield (h.table(h.units(3))[:1], solver)


def wrong_spans():
    for value in NO_TUPLES:
        yield value, None
    yield (), None
    yield [FIRST], None
    for value, _ in wrong_rows(False):
        yield (value,), 0
        yield (FIRST, value, value), 1
    yield (FIRST,) * 9, 8
    yield (FIRST,) * 8 + (None,), 8
    yield (FIRST, None) + (FIRST,) * 7, 1
    yield FIRST, 0


def wrong_parts(good):
    """Rows, a number for each row of an aid, and the index."""
    for value in NO_TUPLES:
        yield value, None
    for value in ((), good[:1], good + good[:1], list(good)):
        yield value, None
    for at, part in enumerate(good):
        wrongs = NO_TUPLES + ((), part[:-1], part + part[:1], list(part), (1, 1), (part,))
        for wrong in wrongs + tuple(row for bad in NO_FRACTIONS for row, _ in with_wrong(part, bad)):
            yield good[:at] + (wrong,) + good[at + 1:], at
            yield good[:at] + (wrong,) * (len(good) - at), at


# Tables, but with a gap for LINK that is 0, 0 along only, below 0, or above 0 and below 0.
UNSAFE = tuple(h.table(rows) for rows in (((1, 0), (0, 1)), ((1, 0), (-1, 1)), ((0, 0), (0, 0)), ((-2, 0), (0, -2)),
                                          ((1, 0), (0, 9)), ((1, 5), (-6, 9))))
OTHER_SIZES = (h.table(((5,),)), h.table(h.units(3)))


def wrong_smoothers():
    yield from wrong_tables()
    yield from UNSAFE + OTHER_SIZES


def wrong_solvers():
    """What is no table of two rows."""
    yield from wrong_tables()
    yield from OTHER_SIZES
    yield METHOD[0]
    yield METHOD


def wrong_uneven():
    """Tables, but not alike turned over."""
    for rows in (((2, 1), (0, 2)), ((2, -1), (1, 2)), ((0, 1), (0, 0)), ((0, 1, 0), (1, 0, 0), (0, 1, 0)),
                 ((1, 0, 0), (0, 1, 1), (0, 0, 1))):
        yield h.table(rows)


def wrong_aids():
    rows, solver = AID
    yield from NO_TUPLES
    yield from ((), (rows,), (rows, solver, solver), [rows, solver], (solver, rows), (rows, None), (rows, (2, 1)))
    yield from ((rows, list(solver)), (list(rows), solver), (AID,), (AID, AID), METHOD, ((), ()), ((), solver), (rows, ()))
    for value, _ in wrong_rows(False):
        yield (value, solver)
        yield (value, LINK)
    for value in wrong_tables():
        yield (rows, value)
        yield (FIRST + SECOND, value)
    for value in UNSAFE:
        yield (FIRST + SECOND, value)
    for number in ((1, 1), (0, 1), (999, 1000), (-2, 1)):
        yield (rows, ((number,),))
    yield (rows, LINK)
    yield (FIRST + SECOND, solver)
    yield ((((1, 1),),), solver)
    yield (h.table(h.units(3))[:1], solver)


def wrong_method():
    for value in NO_TUPLES:
        yield value, None
    yield (), None
    yield list(METHOD), None
    for wrong in wrong_aids():
        yield (wrong,), 0
        yield METHOD + (wrong, wrong), 2
    yield (AID,) * 9, 8
    yield METHOD * 4 + (AID,), 8
    yield (AID,) * 12, 8
    yield (AID,) * 8 + (None,), 8
    yield (AID,) * 4 + (None,) + (AID,) * 4, 4
    yield (None,) * 9, 0
    yield AID, 0


def wrong_lots():
    for value in NO_TUPLES:
        yield value, None
    yield (), None
    yield [(0,)], None
    for wrong in NO_TUPLES + ((), (2,), (-1,), (0, 2), (-1, 0), (0, 0), (1, 0), (0, 1, 1), (0, 1, 2), (True,), (False,),
                              (0, True), (False, 1), ("0",), (None,), ((0,),), [0], (0, (1,)), (10 ** 399,), (Odd(),), (0, 1, 0)):
        yield (wrong,), 0
        yield ((0,), (0, 1), wrong, wrong), 2
    yield ((0,),) * 9, 8
    yield ((0,),) * 8 + (None,), 8
    yield ((0,), None) + ((1,),) * 7, 1
    yield (0, 1), 0


def wrong_inner():
    """What is no lot of inner indexes for a table of two rows: its indexes are 0 or 1 alone."""
    yield from NO_TUPLES
    yield from ((), (2,), (-1,), (-2,), (0, 1), (0, 2), (1, 0), (0, 0), (1, 1), (True,), (False,), ("0",), (None,), ((0,),), [0],
                (10 ** 399,), (Odd(),), ([0],), (0, 1, 2), ((1, 1),))


def wrong_numbers():
    """What is no row for one outer index."""
    for value in NO_TUPLES + ((), ROW, [(1, 1)], ROW + ROW):
        yield value, None
    for wrong in NO_FRACTIONS:
        yield (wrong,), 0


def wrong_pairs():
    """What is no pair of a ladder for LINK."""
    yield from NO_TUPLES
    yield from ((), (LOWER,), (LOWER, FIRST, FIRST), [LOWER, FIRST], (FIRST, LOWER), (LOWER, None), (LOWER, LINK[0]), LOWER)
    for value in wrong_smoothers():
        yield (value, FIRST)
    for value, _ in wrong_rows(False):
        yield (LOWER, value)


def wrong_ladders():
    for value in NO_TUPLES:
        yield value, None
    pair = (LOWER, FIRST + SECOND)
    for value in ((), (pair,) * 3, (None,) * 3, [pair], pair + pair):
        yield value, None
    for wrong in wrong_pairs():
        yield (wrong,), 0
        yield (pair, wrong), 1
        yield (wrong, wrong), 0
    yield pair, 0
    # Right for the table, wrong for the one that is made of the first rows: one of one row, four times LINK.
    yield ((LOWER, FIRST), pair), 1
    yield ((LOWER, FIRST), (LOWER, FIRST)), 1
    yield ((LOWER, h.table(((2, 0), (0, 2)))), pair), 1
    yield ((LOWER, FIRST), ((((1, 1),),), (((1, 1),),))), 1


def given(error, values):
    return [(value, error, "given", value) for value in values]


def index(error, values):
    return [(value, error, "index", at) for value, at in values]


NO_COUNTS = NO_WHOLE_NUMBERS + (-1, 3, 10 ** 6)
WRONG = {
    "table": given(errors.InvalidTable, list(wrong_tables()) + list(wrong_forms())),
    "team": index(errors.InvalidTeam, wrong_team()),
    "spans": index(errors.InvalidSpans, wrong_spans()),
    "parts": index(errors.InvalidParts, wrong_parts((((1, 1),), ((2, 1),)))),
    "row": index(errors.InvalidRow, wrong_row()),
    "other": index(errors.InvalidRow, wrong_row()),
    "price": index(errors.InvalidRow, wrong_row()),
    "form": given(errors.InvalidForm, list(wrong_tables()) + list(wrong_uneven())),
    "rows": index(errors.InvalidRows, wrong_rows(False)),
    "solver": given(errors.InvalidSolver, wrong_solvers()),
    "aid": given(errors.InvalidAid, wrong_aids()),
    "method": index(errors.InvalidMethod, wrong_method()),
    "split": index(errors.InvalidSplit, wrong_parts((((1, 1),), ((2, 1), (-1, 3))))),
    "lots": index(errors.InvalidLots, wrong_lots()),
    "rounds": given(errors.InvalidNumber, NO_WHOLE_NUMBERS + (-1, 41, 10 ** 6)),
    "number": given(errors.InvalidAmount, NO_FRACTIONS + ((-1, 1), (-1, 10 ** 9))),
    "damping": given(errors.InvalidAmount, NO_FRACTIONS + ((-1, 1), (-1, 10 ** 9), (0, 1))),
    "root": given(errors.InvalidShare, NO_FRACTIONS + ((-1, 2), (1, 1), (2, 1), (10 ** 9 + 1, 10 ** 9))),
    "most": given(errors.InvalidShare, NO_FRACTIONS + ((-1, 2), (1, 1), (2, 1), (10 ** 9 + 1, 10 ** 9))),
    "many": given(errors.InvalidNumber, NO_WHOLE_NUMBERS + (0, -1, 10 ** 6 + 1, 10 ** 9)),
    "smoother": given(errors.InvalidSmoother, wrong_smoothers()),
    "coarse": index(errors.InvalidRows, wrong_rows(True)),
    "kept": index(errors.InvalidRows, wrong_rows(True)),
    "count": given(errors.InvalidNumber, NO_COUNTS + (0,)),
    "first": index(errors.InvalidRows, wrong_rows(False)),
    "second": index(errors.InvalidRows, wrong_rows(False)),
    "inner": given(errors.InvalidLot, wrong_inner()),
    "weight": given(errors.InvalidWeight, NO_FRACTIONS + ((-1, 1), (-1, 10 ** 9), (0, 1))),
    "other_smoother": given(errors.InvalidSmoother, wrong_smoothers()),
    "ladder": index(errors.InvalidLadder, wrong_ladders()),
    "numbers": index(errors.InvalidRow, wrong_numbers()),
}
GOOD = {"table": LINK, "team": TEAM, "spans": (FIRST, SECOND), "parts": (((1, 1),), ((2, 1),)), "row": ROW, "number": (1, 2),
        "damping": (1, 3), "root": (1, 2), "most": (1, 9), "many": 7, "smoother": LOWER, "coarse": FIRST, "kept": FIRST,
        "count": 2, "value": TEAM, "other": ROW, "price": ROW, "form": SWAP, "rows": FIRST + SECOND, "solver": LOWER, "aid": AID,
        "method": METHOD, "split": (((1, 1),), ((2, 1), (-1, 3))), "lots": ((0, 1), (1,)), "rounds": 3, "first": FIRST,
        "second": SECOND, "inner": (1,), "numbers": ((-1, 2),), "weight": (3, 4), "other_smoother": h.table(((3, 1), (0, 2))),
        "ladder": ((LOWER, FIRST + SECOND), (LOWER, FIRST))}
TABLES = {
    "is_table": "value", "worth": "form row", "signs": "form", "squares": "form", "low_row": "form",
    "energy_product": "table row other",
}
AIDS = {
    "is_aid": "table value", "gap": "table rows solver", "unsafe_row": "table rows solver", "exact_aid": "table rows",
    "smoother_aid": "table solver", "step": "table aid row", "fall": "table aid row", "point_aids": "table",
    "lot_aids": "table lots",
}
METHODS = {
    "error_table": "table method", "run": "table method row rounds", "turned": "table method",
    "there_and_back": "table method", "joined_table": "table method", "mean_table": "table method",
    "is_whole": "table method", "staying_error": "table method",
}
SPLITS = {
    "split_sum": "table method split", "split_cost": "table method split", "least_split": "table method row",
    "least_cost": "table method row", "best_price": "table method row", "price_bound": "table method price row",
}
FACTORS = {
    "has_factor": "table method most", "beyond": "table method most", "factor_near": "table method many",
    "ends_at_once": "table method",
}
TOGETHER = {
    "is_team": "table value", "exact_team": "table spans", "summed_table": "table team", "is_whole_team": "table team",
    "team_cost": "table team parts", "least_team_cost": "table team row", "team_split": "table team row",
    "team_prices": "table team row", "has_ratios_from": "table team number", "has_ratios_up_to": "table team number",
    "least_ratio_near": "table team many", "greatest_ratio_near": "table team many", "damped_table": "table team damping",
    "dies_with": "table team damping", "unfalling": "table team damping", "falls_to": "table team damping root",
}
COARSE = {
    "two_grids": "table smoother coarse", "smoothed_table": "table smoother", "measure": "table smoother most",
    "has_coarse_factor": "table smoother coarse most", "coarse_beyond": "table smoother coarse most",
    "coarse_factor_near": "table smoother coarse many", "least_count": "table smoother most",
    "best_rows": "table smoother kept count most", "barring_rows": "table smoother kept count most",
    "best_factor_near": "table smoother kept count many",
}
COLOURS = {"do_touch": "table first second", "colours_of": "table team", "colouring": "table team"}
TWOSPANS = {
    "product_up_to": "table first second most", "product_near": "table first second many",
    "product_pair": "table first second most", "common_rows": "table first second",
}
INNER = {
    "harmonic_rows": "table inner", "outer_table": "table inner", "extended": "table inner numbers",
    "ends_with": "table inner coarse",
}
SMOOTHERS = {
    "is_smoother": "table value", "lower_smoother": "table", "slant_smoother": "table weight",
    "is_never_worse": "table smoother other:other_smoother", "parting_rows": "table smoother other:other_smoother",
}
LEVELS = {
    "is_ladder": "table value", "level_tables": "table ladder", "exact_round": "table ladder", "v_round": "table ladder",
    "w_round": "table ladder",
}
CERTIFICATES = {
    "certify_positive": "form", "certify_aid": "table rows solver", "certify_whole": "table method",
    "certify_cost": "table method row", "certify_factor": "table method most", "certify_ratios_from": "table team number",
    "certify_ratios_up_to": "table team number", "certify_damping": "table team damping",
    "certify_product": "table first second most", "certify_end": "table inner coarse",
    "certify_coarse": "table smoother coarse most", "certify_best": "table smoother kept count most",
    "certify_smoothers": "table smoother other:other_smoother",
}


def functions():
    """Each function and its parameters: by their names what kind of value they take, which is mostly told by the name."""
    listed = ((tables, TABLES), (aids, AIDS), (methods, METHODS), (splits, SPLITS), (factors, FACTORS), (together, TOGETHER),
              (colours, COLOURS), (twospans, TWOSPANS), (inner, INNER), (coarse, COARSE), (smoothers, SMOOTHERS),
              (levels, LEVELS), (certificates, CERTIFICATES))
    for module, told in listed:
        for name, words in told.items():
            parts = [word.partition(":") for word in words.split()]
            yield getattr(module, name), {part: kind or part for part, _, kind in parts}


def good(kinds):
    return {name: GOOD[kind] for name, kind in kinds.items()}


def first_wrong(kinds):
    """By its name the first wrong value for each parameter that has wrong ones."""
    return {name: WRONG[kind][0][0] for name, kind in kinds.items() if kind in WRONG}
