"""The examples of the interface, as they stand, and those of README.md."""

import doctest
import pathlib
import re
import unittest

FIRST = '''
>>> from splitcosts.tables import energy_product, is_table, low_row, signs, squares, worth
>>> nil, half, one, two, less = (0, 1), (1, 2), (1, 1), (2, 1), (-1, 1)
>>> pair, swap, plain = ((two, one), (one, two)), ((nil, one), (one, nil)), ((one, nil), (nil, one))
>>> [is_table(pair), is_table(((one, two),)), signs(pair), signs(swap), signs(((one, one), (one, one))), low_row(pair), worth(pair, (one, less))]
[True, False, (2, 0, 0), (1, 0, 1), (1, 1, 0), None, (2, 1)]
>>> [energy_product(pair, (one, nil), (nil, one)), worth(swap, low_row(swap))[0] <= 0, len(squares(swap))]
[(1, 1), True, 2]
>>> from splitcosts.aids import exact_aid, fall, gap, is_aid, lot_aids, point_aids, smoother_aid, step, unsafe_row
>>> twice = ((two, nil), (nil, two))
>>> first, second = point_aids(pair)
>>> [first, second == exact_aid(pair, ((nil, one),)), is_aid(pair, (((one, nil),), ((half,),))), gap(pair, plain, twice), unsafe_row(pair, plain, twice)]
[((((1, 1), (0, 1)),), (((2, 1),),)), True, False, (((2, 1), (-1, 1)), ((-1, 1), (2, 1))), None]
>>> [step(pair, first, (nil, two)), fall(pair, first, (nil, two)), step(pair, smoother_aid(pair, twice), (one, nil)), lot_aids(pair, ((0, 1),))[0][1] == pair]
[((-1, 1), (2, 1)), (2, 1), ((0, 1), (-1, 2)), True]
>>> smoother_aid(pair, plain)
raises NotSafe()
>>> from splitcosts.methods import error_table, is_whole, joined_table, mean_table, run, staying_error, there_and_back, turned
>>> sweep = (first, second)
>>> [error_table(pair, sweep), run(pair, sweep, (nil, (4, 1)), 2), joined_table(pair, sweep), mean_table(pair, sweep)]
[(((0, 1), (-1, 2)), ((0, 1), (1, 4))), ((-1, 2), (1, 4)), ((((1, 1), (0, 1)), ((0, 1), (1, 1))), (((2, 1), (0, 1)), ((1, 1), (2, 1)))), (((5, 8), (-1, 4)), ((-1, 4), (1, 2)))]
>>> [turned(pair, sweep) == (second, first), len(there_and_back(pair, sweep)), is_whole(pair, sweep), is_whole(pair, (first,)), energy_product(pair, (one, nil), staying_error(pair, (first,)))]
[True, 4, True, False, (0, 1)]
>>> from splitcosts.splits import best_price, least_cost, least_split, price_bound, split_cost, split_sum
>>> [split_sum(pair, sweep, ((one,), (two,))), split_cost(pair, sweep, ((one,), (two,))), least_cost(pair, sweep, (one, two)), least_split(pair, sweep, (one, two)), least_cost(pair, sweep, (nil, one))]
[((1, 1), (2, 1)), (16, 1), (16, 1), (((1, 1),), ((2, 1),)), (5, 2)]
>>> [best_price(pair, sweep, (nil, one)), price_bound(pair, sweep, (one, (5, 2)), (nil, one)), price_bound(pair, sweep, (nil, one), (nil, one))]
[((1, 1), (5, 2)), (5, 2), (3, 2)]
'''

FACTORS = '''
>>> from splitcosts.factors import beyond, ends_at_once, factor_near, has_factor
>>> [has_factor(pair, sweep, (1, 4)), has_factor(pair, sweep, (1, 5)), beyond(pair, sweep, (1, 4)), factor_near(pair, sweep, 10), factor_near(pair, sweep, 4), factor_near(pair, there_and_back(pair, sweep), 16)]
[True, False, None, (2, False), (1, True), (1, True)]
>>> far = beyond(pair, sweep, (1, 5))
>>> [5 * worth(pair, run(pair, sweep, far, 1))[0] * worth(pair, far)[1] > worth(pair, far)[0] * worth(pair, run(pair, sweep, far, 1))[1], ends_at_once(pair, lot_aids(pair, ((0, 1),))), ends_at_once(pair, sweep)]
[True, True, False]
'''

TOGETHER = '''
>>> from splitcosts.together import damped_table, dies_with, exact_team, falls_to, greatest_ratio_near, has_ratios_from, has_ratios_up_to, is_team, is_whole_team, least_ratio_near, least_team_cost, summed_table, team_cost, team_prices, team_split, unfalling
>>> nil, half, one, two, less = (0, 1), (1, 2), (1, 1), (2, 1), (-1, 1)
>>> link, ends = ((two, less), (less, two)), (((one, nil),), ((nil, one),))
>>> team = exact_team(link, ends)
>>> [team, summed_table(link, team), is_whole_team(link, team), is_whole_team(link, team[:1]), is_team(link, ())]
[(((((1, 1), (0, 1)),), (((2, 1),),)), ((((0, 1), (1, 1)),), (((2, 1),),))), (((1, 2), (0, 1)), ((0, 1), (1, 2))), True, False, False]
>>> [least_team_cost(link, team, (one, one)), team_split(link, team, (one, one)), team_prices(link, team, (one, one)), team_cost(link, team, ((two,), (one,)))]
[(4, 1), (((1, 1),), ((1, 1),)), ((2, 1), (2, 1)), (10, 1)]
>>> [least_ratio_near(link, team, 4), greatest_ratio_near(link, team, 3), has_ratios_from(link, team, half), has_ratios_up_to(link, team, one), least_ratio_near(link, team[:1], 9)]
[(2, True), (4, False), True, False, (0, True)]
>>> [dies_with(link, team, one), dies_with(link, team, (4, 3)), unfalling(link, team, one), falls_to(link, team, one, half), falls_to(link, team, one, (1, 3)), damped_table(link, team, one)]
[True, False, None, True, False, (((0, 1), (1, 2)), ((1, 2), (0, 1)))]
'''

COLOURS = '''
>>> from splitcosts.colours import colouring, colours_of, do_touch
>>> from splitcosts.twospans import common_rows, product_near, product_pair, product_up_to
>>> from splitcosts.inner import ends_with, extended, harmonic_rows, outer_table
>>> chain = ((two, less, nil), (less, two, less), (nil, less, two))
>>> points = exact_team(chain, (((one, nil, nil),), ((nil, one, nil),), ((nil, nil, one),)))
>>> [do_touch(link, ends[0], ends[1]), colours_of(link, team), colours_of(chain, points), colouring(chain, points) in ((0, 1, 0), (1, 0, 1)), do_touch(chain, ((one, nil, nil),), ((nil, nil, one),))]
[True, 2, 2, True, False]
>>> [product_near(link, ends[0], ends[1], 8), product_up_to(link, ends[0], ends[1], (1, 4)), product_up_to(link, ends[0], ends[1], (1, 5)), product_pair(link, ends[0], ends[1], (1, 4)), common_rows(link, ends[0], ends[1])]
[(2, True), True, False, None, ()]
>>> [harmonic_rows(chain, (1,)), outer_table(chain, (1,)), harmonic_rows(chain, (0, 2)), outer_table(chain, (0, 2))]
[(((1, 1), (1, 2), (0, 1)), ((0, 1), (1, 2), (1, 1))), (((3, 2), (-1, 2)), ((-1, 2), (3, 2))), (((1, 2), (1, 1), (1, 2)),), (((1, 1),),)]
>>> [extended(chain, (1,), (one, two)), ends_with(chain, (0, 2), ((half, one, half),)), ends_with(chain, (0, 2), ((nil, one, nil),)), ends_with(chain, (0, 2), ())]
[((1, 1), (3, 2), (2, 1)), True, False, False]
>>> product_near(link, ends[0], ends[0], 8)
raises NotWhole()
'''

COARSE = '''
>>> from splitcosts.coarse import barring_rows, best_factor_near, best_rows, coarse_beyond, coarse_factor_near, has_coarse_factor, least_count, measure, smoothed_table, two_grids
>>> nil, one, two, half = (0, 1), (1, 1), (2, 1), (1, 2)
>>> firm, lower, first = ((two, one), (one, two)), ((two, nil), (one, two)), ((one, nil),)
>>> [smoothed_table(firm, lower), measure(firm, lower, (1, 4)), measure(firm, lower, nil)]
[(((2, 1), (1, 1)), ((1, 1), (5, 2))), (((1, 8), (0, 1)), ((0, 1), (0, 1))), (((-1, 24), (1, 12)), ((1, 12), (-1, 6)))]
>>> [two_grids(firm, lower, first)[0], coarse_factor_near(firm, lower, first, 8), coarse_factor_near(firm, lower, (), 7), has_coarse_factor(firm, lower, first, (1, 4)), has_coarse_factor(firm, lower, first, (1, 5)), coarse_beyond(firm, lower, first, (1, 4))]
[((((1, 1), (0, 1)),), (((2, 1),),)), (2, True), (1, False), True, False, None]
>>> [least_count(firm, lower, (1, 4)), least_count(firm, lower, nil), best_factor_near(firm, lower, (), 1, 5), best_factor_near(firm, lower, first, 1, 8), best_rows(firm, lower, (), 0, nil), barring_rows(firm, lower, (), 1, nil)]
[0, 1, (0, True), (2, True), None, None]
>>> found = best_rows(firm, lower, (), 1, nil)
>>> [coarse_factor_near(firm, lower, found, 3), len(barring_rows(firm, lower, (), 0, nil)), best_rows(firm, lower, first, 1, nil), len(barring_rows(firm, lower, first, 1, nil))]
[(0, True), 1, None, 1]
'''

SMOOTHERS = '''
>>> from splitcosts.checker import accepts
>>> from splitcosts.smoothers import is_never_worse, is_smoother, lower_smoother, parting_rows, slant_smoother
>>> upper = ((two, one), (nil, two))
>>> [lower_smoother(firm) == lower, is_smoother(firm, upper), is_smoother(firm, ((one, nil), (nil, one))), slant_smoother(firm, half)]
[True, True, False, (((4, 1), (0, 1)), ((0, 1), (4, 1)))]
>>> even = slant_smoother(firm, one)
>>> [is_never_worse(firm, lower, even), is_never_worse(firm, even, lower), is_never_worse(firm, lower, upper), parting_rows(firm, lower, even)]
[True, False, False, None]
>>> found = parting_rows(firm, lower, upper)
>>> [len(found), accepts(("worse", firm, lower, upper), found), coarse_factor_near(firm, upper, first, 16)]
[1, True, (1, True)]
>>> slant_smoother(firm, two)
raises NotSafe()
'''

LEVELS = '''
>>> from splitcosts.factors import factor_near
>>> from splitcosts.levels import exact_round, is_ladder, level_tables, v_round, w_round
>>> steps = ((lower, first),)
>>> [is_ladder(firm, steps), is_ladder(firm, ()), level_tables(firm, steps), exact_round(firm, steps) == v_round(firm, steps), w_round(firm, steps) == v_round(firm, steps)]
[True, False, ((((2, 1), (1, 1)), ((1, 1), (2, 1))), (((2, 1),),)), True, True]
>>> [len(v_round(firm, steps)), v_round(firm, steps)[1], v_round(firm, steps)[2][1] == upper, factor_near(firm, v_round(firm, steps), 256), len(w_round(firm, ((lower, (first[0], (nil, one))), (lower, first))))]
[3, ((((1, 1), (0, 1)),), (((2, 1),),)), True, (1, True), 8]
'''

CERTIFICATES = '''
>>> from splitcosts.certificates import certify_cost, certify_damping, certify_factor
>>> from splitcosts.checker import accepts
>>> [certify_factor(pair, sweep, (1, 5))[0][0], certify_cost(pair, sweep, (one, two))[0][4], certify_damping(link, team, one)[1], accepts(("stays", pair, sweep[:1]), (one, (-2, 1))), accepts(("does not die", link, team, (4, 3)), (one, less))]
['factor above', (16, 1), (), True, True]
'''


class Examples(unittest.TestCase):
    def runs(self, text, many):
        # What the document tells as "raises NotSafe()" stands here as Python tells it.
        text = re.sub(r"(?m)^raises (\w+)\(\)$", r"Traceback (most recent call last):\n    ...\nsplitcosts.errors.\1", text)
        test = doctest.DocTestParser().get_doctest(text, {}, self.id(), None, 0)
        told = []
        found = doctest.DocTestRunner(verbose=False).run(test, out=told.append)
        self.assertEqual((found.failed, found.attempted), (0, many), "".join(told))

    def test_tables_aids_methods_splits_and_factors(self):
        self.runs(FIRST + FACTORS, 22)

    def test_together_colours_two_spans_and_inner(self):
        self.runs(TOGETHER + COLOURS, 18)

    def test_coarse_smoothers_and_levels(self):
        self.runs(COARSE + SMOOTHERS + LEVELS, 22)

    def test_all_of_them_one_heading_behind_the_other(self):
        self.runs(FIRST + FACTORS + TOGETHER + COLOURS + COARSE + SMOOTHERS + LEVELS + CERTIFICATES, 65)

    def test_readme(self):
        text = (pathlib.Path(__file__).resolve().parent.parent / "README.md").read_text(encoding="utf-8")
        self.runs(text.split("```")[1], 40)


if __name__ == "__main__":
    unittest.main()
