import unittest
from fractions import Fraction

import claimed
import helpers as h
import oracle
from splitcosts import aids, certificates as c, coarse, errors, factors, inner, methods, smoothers, splits, tables, together, twospans
from splitcosts.checker import accepts
from wrongs import AID, CERTIFICATES, FIRST, GOOD, LINK, LOWER, METHOD, SECOND, SWAP, TEAM, UNSAFE, WRONG

MANIES = (1, 2, 3, 4, 5)
# By each certificate: what tells which of the two claims is so, and both texts.
TELLS = {
    "certify_positive": (tables.low_row, "positive", "not positive"), "certify_aid": (aids.unsafe_row, "aid", "unsafe"),
    "certify_whole": (methods.is_whole, "whole", "stays"), "certify_cost": (splits.least_cost, "costs", "costs"),
    "certify_factor": (factors.has_factor, "factor up to", "factor above"),
    "certify_ratios_from": (together.has_ratios_from, "ratios from", "ratio below"),
    "certify_ratios_up_to": (together.has_ratios_up_to, "ratios up to", "ratio above"),
    "certify_damping": (together.dies_with, "dies", "does not die"),
    "certify_product": (twospans.product_up_to, "product up to", "product above"),
    "certify_end": (inner.ends_with, "ends", "goes on"),
    "certify_coarse": (coarse.has_coarse_factor, "coarse factor", "coarse beyond"),
    "certify_best": (coarse.best_rows, "some coarse", "no coarse"),
    "certify_smoothers": (smoothers.is_never_worse, "never worse", "worse"),
}


def is_so(told, answer):
    """Whether the first of the two claims is: where a row is told, exactly if there is none; coarse rows the other way."""
    if told in (tables.low_row, aids.unsafe_row):
        return answer is None
    return answer if type(answer) is bool else answer is not None


class Certificates(unittest.TestCase):
    def test_all_of_them_are_told(self):
        self.assertEqual(set(TELLS), set(CERTIFICATES))

    def test_the_claim_that_is_so(self):
        seen = set()
        for many in MANIES:
            for certify, arguments in [*claimed.arguments(many, 7), *claimed.arguments(many, 6)]:
                told, text, other = TELLS[certify.__name__]
                found = certify(*arguments)
                self.assertEqual((type(found), len(found)), (tuple, 2))
                claim, paper = found
                answer = told(*arguments)
                self.assertEqual(claim[0], text if is_so(told, answer) else other)
                self.assertEqual(claim[1:], arguments + ((answer,) if text == "costs" else ()))
                # They are the arguments themselves.
                for part, own in zip(claim[1:], arguments):
                    self.assertIs(part, own)
                self.assertIs(accepts(claim, paper), True)
                seen.add((many, claim[0]))
        self.assertEqual(len(seen), 5 * 25 - 4)

    def test_the_claim_is_so_by_sums_of_the_tests_own(self):
        for many in MANIES:
            for certify, arguments in claimed.arguments(many, 8):
                claim, paper = certify(*arguments)
                self.assertTrue(oracle.is_right(claim, paper), claim[0])
                self.assertEqual(paper == () and claim[0] not in ("some coarse", "worse"), claim[0] in oracle.BARE)

    def test_what_is_told_is_the_least_cost(self):
        for draw, form, table, method in h.whole_methods(11):
            row = h.drawn_row(draw, len(form))
            claim, paper = c.certify_cost(table, method, h.pairs(row))
            least = h.worth(h.inverse(h.mean(form, method)), row)
            self.assertEqual(claim, ("costs", table, method, h.pairs(row), h.pair(least)))
            split, price = paper
            self.assertEqual(split, splits.least_split(table, method, h.pairs(row)))
            self.assertEqual(price, splits.best_price(table, method, h.pairs(row)))
            self.assertIs(accepts(claim, paper), True)

    def test_methods_of_all_kinds(self):
        """One aid, two, three and eight, whole and not."""
        told = set()
        for draw, form, table, method in h.drawn_methods(12):
            for some in (method[:1], method):
                claim, paper = c.certify_whole(table, some)
                whole = h.is_whole(h.all_rows(some), len(form))
                self.assertEqual(claim, ("whole" if whole else "stays", table, some))
                self.assertIs(accepts(claim, paper), True)
                told.add((len(form), whole))
            if whole:
                for most in ((0, 1), (1, 2), (99, 100)):
                    claim, paper = c.certify_factor(table, method, most)
                    has = h.has_factor(form, h.error_table(form, method), h.number(most))
                    self.assertEqual(claim[0], "factor up to" if has else "factor above")
                    self.assertIs(accepts(claim, paper), True)
        self.assertEqual(told, {(many, whole) for many in MANIES for whole in (True, False)} - {(1, False)})


class Edges(unittest.TestCase):
    def text(self, found, parts):
        claim, paper = found
        self.assertEqual(claim[1:], parts)
        self.assertIs(accepts(claim, paper), True)
        return claim[0]

    def test_shares_of_nought_and_just_the_factor(self):
        points = aids.point_aids(LINK)
        for most, text in (((0, 1), "factor above"), ((1, 4), "factor up to"), ((249, 1000), "factor above"),
                           ((251, 1000), "factor up to")):
            self.assertEqual(self.text(c.certify_factor(LINK, points, most), (LINK, points, most)), text)
            told = "product" + text[6:]
            self.assertEqual(self.text(c.certify_product(LINK, FIRST, SECOND, most), (LINK, FIRST, SECOND, most)), told)
            told = "coarse beyond" if text == "factor above" else "coarse factor"
            self.assertEqual(self.text(c.certify_coarse(LINK, LOWER, FIRST, most), (LINK, LOWER, FIRST, most)), told)
        full = aids.lot_aids(LINK, ((0, 1),))
        self.assertEqual(self.text(c.certify_factor(LINK, full, (0, 1)), (LINK, full, (0, 1))), "factor up to")
        self.assertEqual(self.text(c.certify_coarse(LINK, LINK, (), (0, 1)), (LINK, LINK, (), (0, 1))), "coarse factor")

    def test_ratios_and_dampings_that_are_just_reached(self):
        for number, least, most in (((1, 2), "ratios from", "ratio above"), ((501, 1000), "ratio below", "ratio above"),
                                    ((3, 2), "ratio below", "ratios up to"), ((1499, 1000), "ratio below", "ratio above"),
                                    ((0, 1), "ratios from", "ratio above")):
            self.assertEqual(self.text(c.certify_ratios_from(LINK, TEAM, number), (LINK, TEAM, number)), least)
            self.assertEqual(self.text(c.certify_ratios_up_to(LINK, TEAM, number), (LINK, TEAM, number)), most)
        for damping, text in (((4, 3), "does not die"), ((1333, 1000), "dies"), ((1, 10 ** 399), "dies")):
            self.assertEqual(self.text(c.certify_damping(LINK, TEAM, damping), (LINK, TEAM, damping)), text)
        for damping in ((1, 10 ** 9), (1, 1), (9, 1)):
            self.assertEqual(self.text(c.certify_damping(LINK, TEAM[:1], damping), (LINK, TEAM[:1], damping)), "does not die")

    def test_counts(self):
        """None, as many as the kept rows, and all rows."""
        for many in MANIES:
            draw = h.draws(many)
            form = h.drawn_positive(draw, many)
            table, smoother = h.table(form), h.table(h.drawn_smoother(draw, form))
            for kept in (h.table(h.drawn_free(draw, count, many)) for count in range(many + 1)):
                for count in range(len(kept), many + 1):
                    for most in ((0, 1), (1, 2), (999, 1000)):
                        parts = (table, smoother, kept, count, most)
                        text = self.text(c.certify_best(*parts), parts)
                        self.assertEqual(text == "some coarse", coarse.best_rows(*parts) is not None)
                        self.assertLessEqual(count == many, text == "some coarse")

    def test_one_row(self):
        table, rows = (((2, 1),),), (((3, 1),),)
        aid = (rows, (((18, 1),),))
        self.assertEqual(c.certify_positive(table), (("positive", table), tables.squares(table)))
        self.assertEqual(self.text(c.certify_positive((((0, 1),),)), ((((0, 1),),),)), "not positive")
        self.assertEqual(self.text(c.certify_whole(table, (aid,)), (table, (aid,))), "whole")
        self.assertEqual(self.text(c.certify_factor(table, (aid,), (0, 1)), (table, (aid,), (0, 1))), "factor up to")
        self.assertEqual(self.text(c.certify_product(table, rows, rows, (0, 1)), (table, rows, rows, (0, 1))), "product up to")
        self.assertEqual(c.certify_smoothers(table, (((4, 1),),), (((2, 1),),)),
                         (("worse", table, (((4, 1),),), (((2, 1),),)), ()))
        self.assertEqual(c.certify_smoothers(table, (((2, 1),),), (((4, 1),),)),
                         (("never worse", table, (((2, 1),),), (((4, 1),),)), ()))
        for coarse_rows, text in (((), "coarse beyond"), (rows, "coarse factor")):
            parts = (table, (((4, 1),),), coarse_rows, (0, 1))
            self.assertEqual(self.text(c.certify_coarse(*parts), parts), text)
        for count, text in ((0, "no coarse"), (1, "some coarse")):
            parts = (table, (((4, 1),),), (), count, (0, 1))
            self.assertEqual(self.text(c.certify_best(*parts), parts), text)
        self.assertRaises(errors.InvalidLot, c.certify_end, table, (0,), rows)

    def test_ends(self):
        for many in MANIES[1:]:
            draw = h.draws(many)
            table = h.table(h.drawn_positive(draw, many))
            for lot in ((0,), tuple(range(many - 1)), tuple(range(1, many))):
                rows = inner.harmonic_rows(table, lot)
                for some, text in ((rows, "ends"), (h.table(h.units(many)), "ends"), ((), "goes on"), (rows[1:], "goes on"),
                                   (rows[:-1], "goes on")):
                    self.assertEqual(self.text(c.certify_end(table, lot, some), (table, lot, some)), text)

    def test_gaps_that_are_just_not_positive(self):
        for solver, text in ((((1, 1),), "unsafe"), (((10 ** 30 + 1, 10 ** 30),), "aid"), (((-1, 1),), "unsafe")):
            parts = (LINK, FIRST, (solver,))
            self.assertEqual(self.text(c.certify_aid(*parts), parts), text)
        for solver in UNSAFE:
            parts = (LINK, FIRST + SECOND, solver)
            self.assertEqual(self.text(c.certify_aid(*parts), parts), "unsafe")

    def test_rounds_may_be_certified(self):
        """What the package returned may be passed to it: factors of rounds over levels."""
        from splitcosts import levels
        draw = h.draws(3)
        form = h.drawn_positive(draw, 4, 2)
        first = h.drawn_free(draw, 3, 4)
        below = h.on(form, first)
        ladder = ((h.table(h.drawn_smoother(draw, form)), h.table(first)),
                  (h.table(h.drawn_smoother(draw, below)), h.table(h.drawn_free(draw, 2, 3))))
        table = h.table(form)
        for told in (levels.exact_round, levels.v_round, levels.w_round):
            method = told(table, ladder)
            k, _ = factors.factor_near(table, method, 1000)
            for most in (Fraction(k, 1000), Fraction(k + 1, 1001)):
                if most < 1:
                    parts = (table, method, h.pair(most))
                    self.text(c.certify_factor(*parts), parts)
            self.assertEqual(self.text(c.certify_whole(table, method), (table, method)), "whole")


class Errors(unittest.TestCase):
    """They are those of the functions that are named, in their order."""

    def caught(self, told, arguments):
        try:
            told(**arguments)
        except errors.CostError as error:
            return type(error), vars(error)
        return None

    def test_they_are_those_of_the_function_that_is_named(self):
        for name, words in CERTIFICATES.items():
            kinds = {part: kind or part for part, _, kind in (word.partition(":") for word in words.split())}
            good = {part: GOOD[kind] for part, kind in kinds.items()}
            for part, kind in kinds.items():
                for value, _, _, _ in WRONG[kind][::7]:
                    arguments = good | {part: value}
                    found = self.caught(getattr(c, name), arguments)
                    self.assertIsNotNone(found)
                    told = self.caught(TELLS[name][0], arguments)
                    self.assertEqual(found[0], told[0])
                    for key, kept in told[1].items():
                        self.assertIs(found[1][key], kept)

    def test_not_whole_is_last(self):
        asks = ((c.certify_cost, (LINK, (AID,), GOOD["row"])), (c.certify_factor, (LINK, (AID,), (1, 2))),
                (c.certify_product, (LINK, FIRST, FIRST, (1, 2))))
        for told, arguments in asks:
            with self.assertRaises(errors.NotWhole) as caught:
                told(*arguments)
            self.assertIs(type(caught.exception), errors.NotWhole)
            self.assertRaises(errors.InvalidTable, told, SWAP, *arguments[1:])
        for value, error, _, _ in WRONG["row"]:
            self.assertRaises(error, c.certify_cost, LINK, (AID,), value)
        for value, error, _, _ in WRONG["most"]:
            self.assertRaises(error, c.certify_factor, LINK, (AID,), value)
            self.assertRaises(error, c.certify_product, LINK, FIRST, FIRST, value)
        self.assertRaises(errors.InvalidMethod, c.certify_cost, LINK, (AID, None), None)

    def test_others_do_not_ask_for_what_is_whole(self):
        self.assertEqual(c.certify_whole(LINK, (AID,))[0][0], "stays")
        self.assertEqual(c.certify_ratios_from(LINK, TEAM[:1], (1, 9))[0][0], "ratio below")
        self.assertEqual(c.certify_ratios_up_to(LINK, TEAM[:1], (1, 1))[0][0], "ratios up to")
        self.assertEqual(c.certify_damping(LINK, TEAM[:1], (1, 1))[0][0], "does not die")
        self.assertIs(accepts(*c.certify_whole(LINK, METHOD)), True)


if __name__ == "__main__":
    unittest.main()
