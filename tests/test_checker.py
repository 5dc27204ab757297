import inspect
import random
import unittest
from fractions import Fraction

import claimed
import helpers as h
import oracle
from splitcosts import aids
from splitcosts import certificates as c
from splitcosts import splits, tables
from splitcosts.checker import accepts
from wrongs import AID, FIRST, GOOD, LINK, LOWER, METHOD, NO_FRACTIONS, NO_TUPLES, SECOND, SWAP, UNSAFE, WRONG, Odd

MANIES = (1, 2, 3, 4, 5)
NOT_FOR_ONE_ROW = {"stays", "product above", "ends", "goes on"}
# What claims are made of, by what kind of value stands at each place behind the text.
PARTS = {
    "form": ("positive", "not positive"), "table rows solver": ("aid", "unsafe"), "table method": ("whole", "stays"),
    "table method row number": ("costs",), "table method most": ("factor up to", "factor above"),
    "table team number": ("ratios from", "ratio below", "ratios up to", "ratio above"),
    "table team damping": ("dies", "does not die"), "table first second most": ("product up to", "product above"),
    "table inner coarse": ("ends", "goes on"), "table smoother coarse most": ("coarse factor", "coarse beyond"),
    "table smoother kept count most": ("some coarse", "no coarse"), "table smoother other_smoother": ("never worse", "worse"),
}
KINDS = {text: kinds.split() for kinds, texts in PARTS.items() for text in texts}


def told(seeds):
    """Claims with the papers that the certificates make of drawn arguments."""
    for many in MANIES:
        for seed in seeds:
            for certify, arguments in claimed.arguments(many, seed):
                yield h.draws(many), many, *certify(*arguments)


def some_told(seeds):
    """Not more than two of each text and size."""
    seen = {}
    for draw, many, claim, paper in told(seeds):
        seen[many, claim[0]] = seen.get((many, claim[0]), 0) + 1
        if seen[many, claim[0]] < 3:
            yield draw, many, claim, paper


def by_hand():
    """For the values of the wrong arguments: for each certificate arguments of which the one or the other claim comes."""
    for certify, arguments in (
            (c.certify_positive, ((LINK,), (SWAP,))),
            (c.certify_aid, ((LINK, FIRST + SECOND, LOWER), (LINK, FIRST + SECOND, UNSAFE[0]))),
            (c.certify_whole, ((LINK, METHOD), (LINK, (AID,)))),
            (c.certify_cost, ((LINK, METHOD, GOOD["row"]),)),
            (c.certify_factor, ((LINK, METHOD, (9, 10)), (LINK, METHOD, (0, 1)))),
            (c.certify_ratios_from, ((LINK, GOOD["team"], (1, 2)), (LINK, GOOD["team"], (3, 4)))),
            (c.certify_ratios_up_to, ((LINK, GOOD["team"], (3, 2)), (LINK, GOOD["team"], (1, 1)))),
            (c.certify_damping, ((LINK, GOOD["team"], (1, 1)), (LINK, GOOD["team"], (4, 3)))),
            (c.certify_product, ((LINK, FIRST, SECOND, (1, 4)), (LINK, FIRST, SECOND, (1, 5)))),
            (c.certify_end, ((LINK, (0,), (((1, 2), (1, 1)),)), [(LINK, (0,), FIRST)])),
            (c.certify_coarse, ((LINK, LOWER, FIRST, (1, 4)), (LINK, LOWER, FIRST, (1, 5)))),
            (c.certify_best, ((LINK, LOWER, FIRST, 2, (0, 1)), (LINK, LOWER, FIRST, 1, (1, 5)))),
            (c.certify_smoothers, ((LINK, LINK, LOWER), (LINK, LOWER, LINK)))):
        for some in arguments:
            yield certify(*(some if type(some) is tuple else some[0]))


def is_fraction(value):
    return type(value) is tuple and len(value) == 2 and {type(part) for part in value} == {int}


def places(value, ahead=()):
    """The way to each tuple in VALUE, itself among them, but not to the numbers of fractions."""
    if type(value) is not tuple:
        return
    yield ahead
    if not is_fraction(value):
        for at, part in enumerate(value):
            yield from places(part, ahead + (at,))


def found_at(value, way):
    for at in way:
        value = value[at]
    return value


def put_at(value, way, part):
    if not way:
        return part
    return value[:way[0]] + (put_at(value[way[0]], way[1:], part),) + value[way[0] + 1:]


def wrong_for(part):
    """What is never right in the place of a fraction, a row or another tuple that is right."""
    yield from (list(part), None, "text", {0: part}, Odd(), True, [part], part[0] if part else 0)
    if is_fraction(part):
        top, low = part
        yield from ((2 * top, 2 * low), (top, -low), (top, 0), (top,), (top, low, 1), (top, [low]), (part, (1, 1)), (Odd(), low))
        yield (top == 1, low) if top in (0, 1) else (top, None)
        yield (top, True) if low == 1 else (None, low)
    elif part and all(is_fraction(number) for number in part):
        yield from (part[:-1], part + part[-1:], (part,), part[:-1] + (0,))


def spoiled(draw, value, many):
    """VALUE, at drawn places each wrong in one of them."""
    ways = list(places(value))
    for way in [()] + draw.sample(ways, min(len(ways), many)):
        for part in wrong_for(found_at(value, way)):
            yield put_at(value, way, part)


def nudged(draw, value, many):
    """VALUE with another number in the place of one of its fractions, at drawn places."""
    ways = [way for way in places(value) if is_fraction(found_at(value, way))]
    for way in draw.sample(ways, min(len(ways), many)):
        number = h.number(found_at(value, way))
        for other in (number + 1, -number, Fraction(0), number + Fraction(1, 1000)):
            if other != number:
                yield put_at(value, way, h.pair(other))


def drawn_papers(draw, claim):
    """Papers of the form that the claim asks for."""
    text, many = claim[0], len(claim[1])
    size = len(claim[2]) if text in ("aid", "unsafe") else many
    yield ()
    for _ in range(4):
        rows = h.drawn_free(draw, size, size)
        if text in ("positive", "aid", "factor up to"):
            yield oracle.own_squares(h.product(h.turned(rows), rows), draw)
        elif text == "whole":
            yield tuple(tuple(h.pairs(h.drawn_row(draw, len(own))) for own, _ in claim[2]) for _ in range(many))
        elif text == "product above":
            spans = [h.nulls(h.product(h.grid(own), h.grid(claim[1])), many) for own in claim[2:4]]
            yield h.table([h.sum_of_rows(h.drawn_row(draw, len(own) or 1), own, many) for own in spans])
            yield h.table([h.drawn_row(draw, many) for _ in range(2)])
        elif text in ("some coarse", "no coarse", "worse"):
            count = many - 1 if text == "worse" else claim[4] if text == "some coarse" else claim[4] - len(claim[3]) + 1
            yield h.table(h.drawn_free(draw, min(count, many), many))
        else:
            yield h.pairs(rows[0])


class Accepted(unittest.TestCase):
    def test_the_paper_that_the_certificate_makes(self):
        seen = set()
        for _, many, claim, paper in told(range(2)):
            with self.subTest(claim=claim[0], many=many):
                self.assertIs(accepts(claim, paper), True)
                self.assertIs(accepts(paper=paper, claim=claim), True)
                self.assertTrue(oracle.is_right(claim, paper))
                seen.add((many, claim[0]))
        self.assertEqual(seen, {(many, text) for many in MANIES for text in KINDS if many > 1 or text not in NOT_FOR_ONE_ROW})

    def test_another_right_paper(self):
        other = set()
        for draw, many, claim, paper in told(range(1)):
            with self.subTest(claim=claim[0], many=many):
                some = oracle.other_paper(draw, claim, paper)
                self.assertTrue(oracle.is_right(claim, some))
                self.assertIs(accepts(claim, some), True)
                if some != paper:
                    other.add(claim[0])
        self.assertEqual(other, set(KINDS) - set(oracle.BARE) - {"costs"})

    def test_drawn_papers_just_where_they_are_right(self):
        right = set()
        for draw, many, claim, _ in some_told(range(3)):
            for paper in drawn_papers(draw, claim):
                found = accepts(claim, paper)
                self.assertIs(found, oracle.is_right(claim, paper))
                right.add((claim[0], found))
        for text in ("not positive", "unsafe", "factor above", "ratio below", "ratio above", "does not die", "product above",
                     "goes on", "coarse beyond", "some coarse", "no coarse", "worse"):
            self.assertLessEqual({(text, True), (text, False)}, right)

    def test_the_arguments_are_not_changed(self):
        for claim, paper in by_hand():
            kept = repr((claim, paper))
            self.assertIs(accepts(claim, paper), True)
            self.assertIs(accepts(claim, paper), True)
            self.assertEqual(repr((claim, paper)), kept)

    def test_the_parameters(self):
        self.assertEqual(list(inspect.signature(accepts).parameters), ["claim", "paper"])

    def test_great_numbers(self):
        great = 10 ** 399
        form = (((great, 1), (0, 1)), ((0, 1), (1, great)))
        for some in (form, (form[0], ((0, 1), (-1, great)))):
            claim, paper = c.certify_positive(some)
            self.assertIs(accepts(claim, paper), True)
            self.assertIs(accepts(*c.certify_positive(h.table(h.product(h.grid(some), h.grid(some))))), True)


class Refused(unittest.TestCase):
    def test_nothing_where_a_paper_is_told(self):
        for _, many, claim, paper in told(range(2)):
            if claim[0] not in oracle.BARE:
                # No coarse rows may be asked for, and all but one of one row are none.
                self.assertIs(accepts(claim, ()), paper == ())
                self.assertLessEqual(paper == (), claim[0] == "some coarse" and claim[4] == 0 or claim[0] == "worse" and many == 1)

    def test_another_value_where_no_paper_is_told(self):
        for _, many, claim, paper in some_told(range(2)):
            if claim[0] in oracle.BARE:
                self.assertEqual(paper, ())
                nothing = ((0, 1),) * many
                for value in NO_TUPLES + (((),), ((), ()), (None,), (0,), (1, 1), nothing, (nothing,), claim, ("",), (Odd(),)):
                    self.assertIs(accepts(claim, value), False)

    def test_a_number_of_the_paper_is_another_one(self):
        wrong = {}
        for draw, many, claim, paper in some_told(range(2)):
            for some in nudged(draw, paper, 6):
                found = accepts(claim, some)
                self.assertIs(found, oracle.is_right(claim, some))
                wrong[claim[0]] = wrong.get(claim[0], 0) + (not found)
        for text in set(KINDS) - set(oracle.BARE) - {"goes on"}:
            self.assertGreater(wrong[text], 1, text)

    def test_a_part_of_the_paper_is_of_another_kind(self):
        for draw, many, claim, paper in some_told(range(1)):
            for some in spoiled(draw, paper, 8):
                self.assertIs(accepts(claim, some), False)
            if claim[0] not in oracle.BARE and paper:
                for some in (paper[:-1], paper + paper[-1:], paper + ((0, 1),), (paper,), paper + (None,)):
                    self.assertIs(accepts(claim, some), False)

    def test_noughts(self):
        for draw, many, claim, paper in told(range(1)):
            if type(paper) is tuple and paper and is_fraction(paper[0]):
                self.assertIs(accepts(claim, ((0, 1),) * len(paper)), False)

    def test_the_claim_that_excludes_it(self):
        for draw, many, claim, paper in told(range(2)):
            other = oracle.excluded(claim)
            if other is not None:
                self.assertIs(accepts(other, paper), False)
                for some in drawn_papers(draw, other):
                    self.assertIs(accepts(other, some), False)

    def test_papers_of_other_claims_with_the_same_text(self):
        """Each is accepted just where it is right."""
        papers = {}
        for _, many, claim, paper in some_told(range(2)):
            for text in (claim[0], oracle.EXCLUDED.get(claim[0])):
                for some in papers.get((many, text), []):
                    for asked in (claim, oracle.excluded(claim)):
                        if asked is not None and asked[0] == text:
                            try:
                                right = oracle.is_right(asked, some)
                            except ValueError:
                                right = False
                            self.assertIs(accepts(asked, some), right)
            papers.setdefault((many, claim[0]), []).append(paper)

    def test_squares_with_fractions_that_are_not_let(self):
        """Squares of the form itself, but some of their fractions are 0 or below."""
        seen = set()
        for draw, many, claim, paper in told(range(2)):
            other = oracle.excluded(claim)
            if claim[0] in ("not positive", "unsafe"):
                form = claim[1] if claim[0] == "not positive" else aids.gap(*claim[1:])
                found = tables.squares(form)
                seen.add((claim[0], min(part[0] for part, _ in found) < 0))
            elif claim[0] == "factor above":
                whole, share = h.grid(claim[1]), h.number(claim[3])
                form = h.combined(1 / (1 - share), whole, -1, h.inverse(h.mean(whole, claim[2])))
                found = tables.squares(h.table(form))
                self.assertLess(min(part[0] for part, _ in found), 0)
                seen.add((claim[0], True))
            else:
                continue
            self.assertIs(accepts(other, found), False)
        self.assertEqual(len(seen), 5)

    def test_a_pair_that_is_not_above(self):
        """(1, 2) and (2, 1) have the energies 6, their energy product is 3: the quotient is just 1 / 4."""
        pair = (((1, 1), (2, 1)), ((2, 1), (1, 1)))
        for most, above in (((1, 4), False), ((251, 1000), False), ((249, 1000), True), ((2, 9), True), ((0, 1), True)):
            self.assertIs(accepts(("product above", LINK, FIRST, SECOND, most), pair), above)
            self.assertIs(accepts(("product above", LINK, FIRST, SECOND, most), pair[::-1]), False)
            self.assertIs(accepts(("product up to", LINK, FIRST, SECOND, most), ()), not above)

    def test_rows_that_are_just_not_below_or_above(self):
        """LINK's points have the ratios 1 / 2 and 3 / 2; with 4 / 3 (1, - 1) keeps its energy.

        One behind the other they leave of (1 / 2, 1), which has the energy 3 / 2, one of 3 / 8.
        """
        most, least, kept = ((1, 1), (-1, 1)), ((1, 1), (1, 1)), ((0, 1), (1, 1))
        team = GOOD["team"]
        for text, number, error, right in (
                ("ratio above", (3, 2), most, False), ("ratio above", (1499, 1000), most, True), ("ratio above", (1, 1), least, False),
                ("ratio below", (1, 2), least, False), ("ratio below", (501, 1000), least, True), ("ratio below", (1, 1), most, False),
                ("does not die", (4, 3), most, True), ("does not die", (1333, 1000), most, False), ("does not die", (4, 3), least, False)):
            self.assertIs(accepts((text, LINK, team, number), error), right)
        points = tuple((row, (((2, 1),),)) for row in (FIRST, SECOND))
        far = ((1, 2), (1, 1))
        for share, right in (((1, 4), False), ((249, 1000), True), ((251, 1000), False)):
            self.assertIs(accepts(("factor above", LINK, points, share), far), right)
            self.assertIs(accepts(("coarse beyond", LINK, LOWER, FIRST, share), kept), right)

    def test_another_cost(self):
        for draw, many, claim, paper in told(range(1)):
            if claim[0] == "costs":
                cost = h.number(claim[4])
                for other in (cost + 1, cost - Fraction(1, 10 ** 9), 2 * cost + 1, Fraction(-1)):
                    self.assertIs(accepts(claim[:4] + (h.pair(other),), paper), False)
                split, price = paper
                twice = tuple(oracle.scaled(part, 2) for part in split)
                self.assertIs(accepts(claim, (twice, price)), cost == 0)
                dear = (split, oracle.scaled(price, 2))
                self.assertIs(accepts(claim, dear), cost == 0)

    def test_a_split_that_costs_more_and_a_price_that_bounds_less(self):
        """Both of the same row, but not the least: with no number do they make a claim that is accepted."""
        row, price = ((1, 1), (1, 1)), ((1, 1), (1, 1))
        method = (AID, (SECOND, (((2, 1),),)), AID)
        split = (((2, 1),), ((1, 1),), ((-1, 1),))
        self.assertEqual(splits.split_sum(LINK, method, split), row)
        for number in (splits.split_cost(LINK, method, split), splits.price_bound(LINK, method, price, row),
                       splits.least_cost(LINK, method, row)):
            self.assertIs(accepts(("costs", LINK, method, row, number), (split, price)), False)
        self.assertIs(accepts(*c.certify_cost(LINK, method, row)), True)


class Claims(unittest.TestCase):
    def test_one_element_more_or_less(self):
        for claim, paper in by_hand():
            self.assertIs(accepts(claim, paper), True)
            for some in (claim[:-1], claim + claim[-1:], claim + ((),), claim[1:], (claim,), claim[:1], claim + (None,), list(claim),
                         claim[:1] + (claim[1:],), (), claim[:1] + claim[2:]):
                self.assertIs(accepts(some, paper), False)

    def test_another_first_text(self):
        for claim, paper in by_hand():
            for text in (claim[0].upper(), claim[0] + " ", " " + claim[0], "", "claim", claim[0][:-1], claim[0].encode(), None, 0,
                         (claim[0],), [claim[0]], True, Odd(), {claim[0]: 1}, (1, 1), str):
                self.assertIs(accepts((text,) + claim[1:], paper), False)

    def test_the_text_of_another_claim(self):
        """Accepted only where the parts and the paper happen to be right for it."""
        let = 0
        for draw, many, claim, paper in some_told(range(1)):
            for text in KINDS:
                if text != claim[0] and accepts((text,) + claim[1:], paper):
                    let += 1
                    self.assertTrue(oracle.is_right((text,) + claim[1:], paper))
                    self.assertEqual(len(KINDS[text]), len(KINDS[claim[0]]))
        self.assertGreater(let, 0)

    def test_each_part_wrong(self):
        for claim, paper in by_hand():
            for at, kind in enumerate(KINDS[claim[0]]):
                wrongs = [wrong[0] for wrong in WRONG[kind]] if kind != "number" or claim[0] != "costs" else NO_FRACTIONS
                for value in wrongs:
                    some = claim[:at + 1] + (value,) + claim[at + 2:]
                    with self.subTest(claim=claim[0], part=kind):
                        self.assertIs(accepts(some, paper), False)

    def test_all_texts_come_by_hand(self):
        self.assertEqual({claim[0] for claim, _ in by_hand()}, set(KINDS))
        self.assertEqual(len(KINDS), 25)

    def test_a_part_of_a_part_is_of_another_kind(self):
        for draw, many, claim, paper in some_told(range(1)):
            for at, kind in enumerate(KINDS[claim[0]]):
                if kind in ("inner", "count"):
                    continue
                for value in spoiled(draw, claim[at + 1], 2):
                    self.assertIs(accepts(claim[:at + 1] + (value,) + claim[at + 2:], paper), False)

    def test_tables_that_are_not_let(self):
        six = h.table(h.units(6))
        for text, kinds in KINDS.items():
            if kinds == ["form"]:
                self.assertIs(accepts((text, six), oracle.own_squares(h.units(6), random.Random(1))), False)
                self.assertIs(accepts((text, h.table(((2, 1), (0, 2)))), (((1, 1), h.pairs((1, 0))),) * 2), False)
        units = tuple(h.table([row]) for row in h.units(6))
        method = tuple((row, (((1, 1),),)) for row in units)
        nothing = ((0, 1),)
        split = tuple(tuple(((1, 1),) if at == place else nothing for place in range(6)) for at in range(6))
        for claim, paper in ((("whole", six, method), split), (("ratios from", six, method, (1, 1)), ()),
                             (("dies", six, method, (1, 1)), ()), (("coarse factor", six, six, (), (0, 1)), ()),
                             (("never worse", six, six, six), ()), (("product up to", six, six, six, (0, 1)), ()),
                             (("aid", six, units[0], (((1, 1),),)), (((1, 1), ((1, 1),)),)),
                             (("ends", six, (0,), six), ()), (("some coarse", six, six, (), 6, (0, 1)), six)):
            self.assertIs(accepts(claim, paper), False)
            five = tuple(self.cut(part) for part in claim[1:])
            smaller = split[:5] if paper == split else six[:5] if paper == six else paper
            smaller = tuple(self.cut(part) for part in smaller) if claim[0] in ("whole", "some coarse") else smaller
            self.assertIs(accepts(claim[:1] + five, smaller), True)

    def cut(self, part):
        """What stands for five rows where PART stands for six."""
        if part == 6:
            return 5
        if type(part) is not tuple or is_fraction(part):
            return part
        return tuple(self.cut(some) for some in part[:5]) if len(part) == 6 else tuple(self.cut(some) for some in part)

    def test_methods_that_are_not_whole(self):
        method = (AID,)
        for claim, paper in ((("costs", LINK, method, FIRST[0], (2, 1)), ((((1, 1),),), ((2, 1), (0, 1)))),
                             (("factor up to", LINK, method, (9, 10)), oracle.own_squares(h.units(2), random.Random(1))),
                             (("factor above", LINK, method, (1, 2)), ((1, 1), (2, 1)))):
            # The split of the first unit row costs 2 at least, as the price tells; (1, 2) stays as it is.
            self.assertIs(accepts(claim, paper), False)
        self.assertEqual(splits.split_cost(LINK, method, (((1, 1),),)), (2, 1))
        self.assertEqual(splits.price_bound(LINK, method, ((2, 1), (0, 1)), FIRST[0]), (2, 1))
        self.assertIs(accepts(("stays", LINK, method), ((1, 1), (2, 1))), True)

    def test_no_rows(self):
        both = FIRST + SECOND
        for claim in (("aid", LINK, (), ()), ("product up to", LINK, (), both, (0, 1)), ("product up to", LINK, both, (), (0, 1)),
                      ("whole", LINK, ()), ("dies", LINK, (), (1, 1)), ("ends", LINK, (), both), ("positive", ()),
                      ("whole", LINK, (((), ()),)), ("ratios from", LINK, (((), ()),), (0, 1))):
            for paper in ((), ((), ())):
                self.assertIs(accepts(claim, paper), False)
        self.assertIs(accepts(("product up to", LINK, both, FIRST, (0, 1)), ()), True)

    def test_spans_that_are_not_together_all_rows(self):
        pair = (((1, 1), (2, 1)), ((1, 1), (2, 1)))
        for text, paper in (("product up to", ()), ("product above", pair)):
            self.assertIs(accepts((text, LINK, FIRST, FIRST, (9, 10)), paper), False)
        self.assertIs(accepts(("product above", LINK, FIRST, SECOND, (1, 5)), (pair[0], ((2, 1), (1, 1)))), True)

    def test_counts(self):
        for count, paper in ((0, ()), (1, FIRST), (3, FIRST + SECOND), (True, FIRST), ((1, 1), FIRST), (None, FIRST)):
            for most in ((0, 1), (9, 10)):
                found = accepts(("some coarse", LINK, LOWER, FIRST, count, most), paper)
                self.assertIs(found, count == 1 and type(count) is int and most == (9, 10))
        for count in (-1, 0, 1, 2, 3):
            claim = ("no coarse", LINK, LOWER, FIRST, count, (0, 1))
            self.assertIs(accepts(claim, (SECOND[0],)), count == 1)
            self.assertIs(accepts(claim, ()), False)

    def test_a_ninth_aid(self):
        eight, nine = METHOD * 4, METHOD * 4 + (AID,)
        for claim, paper in (c.certify_whole(LINK, eight), c.certify_cost(LINK, eight, GOOD["row"]),
                             c.certify_factor(LINK, eight, (1, 2))):
            self.assertIs(accepts(claim, paper), True)
            some = paper
            if claim[0] == "whole":
                some = tuple(split + (((0, 1),),) for split in paper)
            self.assertIs(accepts(claim[:2] + (nine,) + claim[3:], some), False)
        for count, let in ((8, True), (9, False)):
            self.assertIs(accepts(("dies", LINK, GOOD["team"] * 4 + (AID,) * (count - 8), (1, 9)), ()), let)
            self.assertIs(accepts(("ratios from", LINK, (AID,) * count, (0, 1)), ()), let)


class Whatever(unittest.TestCase):
    def test_whatever_both_are(self):
        values = NO_TUPLES + ((), ((),), (1, 1), FIRST, LINK, ("positive",), ("positive", LINK, LINK), ("",))
        for claim in values:
            for paper in values:
                self.assertIs(accepts(claim, paper), False)

    def test_whatever_the_parts_are(self):
        draw = h.draws(1)
        values = NO_TUPLES + NO_FRACTIONS[-20:] + (FIRST, LINK, GOOD["row"], METHOD, AID, (1, 2), (0,), 0, 1, (), LOWER, GOOD["team"])
        for text, kinds in KINDS.items():
            for size in {1, len(kinds) - 1, len(kinds), len(kinds) + 1}:
                for _ in range(60):
                    parts = tuple(draw.choice(values) for _ in range(size))
                    paper = draw.choice(values)
                    found = accepts((text,) + parts, paper)
                    self.assertIs(type(found), bool)
                    if found:
                        self.assertTrue(oracle.is_right((text,) + parts, paper))

    def test_whatever_the_paper_is(self):
        for claim, paper in by_hand():
            for value in NO_TUPLES + NO_FRACTIONS + (LINK, METHOD, claim, (Odd(), Odd()), (paper, Odd()), (LINK[0], Odd()), (Odd(),) * 3):
                found = accepts(claim, value)
                self.assertIs(type(found), bool)
                if found:
                    self.assertTrue(oracle.is_right(claim, value))

    def test_errors_as_papers(self):
        for claim, _ in by_hand():
            for value in (ValueError("x"), KeyError, lambda: 1, iter([1])):
                self.assertIs(accepts(claim, value), False)
                self.assertIs(accepts(value, ()), False)


if __name__ == "__main__":
    unittest.main()
