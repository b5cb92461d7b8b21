"""The examples of the interface, as they stand there, and those of README.md."""

import doctest
import unittest
from pathlib import Path

README = Path(__file__).resolve().parent.parent / "README.md"

EXAMPLES = '''
>>> from fourcords.ratios import fraction, added, multiplied, compared, floored, ceiling, vector
>>> [fraction(6, -4), added((1, 2), (1, 3)), multiplied((2, 3), (3, 4)), compared((1, 2), (2, 4))]
[(-3, 2), (5, 6), (1, 2), 0]
>>> [floored((-3, 2)), ceiling((-3, 2)), vector((2, -4), 6)]
[-2, -1, ((1, -2), 3)]

>>> from fourcords.forms import Form
>>> one = Form([[2, 1], [1, 2]])
>>> [one((1, -1)), one.between((1, 0), (0, 1)), (one + Form.square((1, 1))).entries]
[(2, 1), (1, 1), ((3, 2), (2, 3))]
>>> [Form([[4, 2], [2, 0]], bottom=6).entries, Form([[4, 2], [2, 0]], bottom=6).bottom]
[((2, 1), (1, 0)), 3]

>>> from fourcords.judging import judge, is_squares, leads, free_points
>>> judge(Form([[2, 1], [1, 2]])).squares
((1, 2, (2, 1)), (3, 2, (0, 1)))
>>> [judge(Form([[1, 2], [2, 1]])).holds,
...  is_squares(Form([[2, 1], [1, 2]]), [(1, 1, (1, 0)), (1, 1, (0, 1)), (1, 1, (1, 1))])]
[False, True]
>>> [leads(Form([[1, 1], [1, 1]])), free_points(Form([[1, 1], [1, 1]]))]
[(0,), ((-1, 1),)]

>>> from fourcords.rowlists import RowList
>>> rows = RowList(2, [((1, 0), 2), ((1, 1), 4)], bottom=6)
>>> [rows.pairs, rows.bottom, rows.form.entries, rows.form.bottom]
[(((1, 0), 1), ((1, 1), 2)), 3, ((3, 2), (2, 2)), 3]

>>> from fourcords.sparing import dependence, spared
>>> rows = RowList(1, [((1,), 1), ((2,), 1)])
>>> [dependence(rows) is None, len(spared(rows)), spared(rows).form == rows.form]
[False, 1, True]

>>> from fourcords.bases import coordinates, basis_factor
>>> rows = RowList(2, [((1, 0), 1), ((0, 1), 1), ((1, 1), 1)])
>>> [coordinates(rows, (0, 2), 1), basis_factor(rows)]
[((-1, 1), 1), (5, 1)]

>>> from fourcords.comparing import within
>>> held = within(Form([[1]]), Form([[3]]), (1, 1), (4, 1))
>>> [held.holds, held.under, held.over, within(Form([[1]]), Form([[3]]), (1, 1), (2, 1)).side]
[True, ((2, 1, (1,)),), ((1, 1, (1,)),), 'over']

>>> from fourcords.factors import least_high, greatest_low
>>> [least_high(Form([[1]]), Form([[3]]), bottom=2), greatest_low(Form([[2]]), Form([[3]]), bottom=3)]
[6, 4]

>>> from fourcords.seen import seen_from, filled
>>> path = Form([[1, -1, 0], [-1, 2, -1], [0, -1, 1]])
>>> [seen_from(path, (0, 2)).entries, seen_from(path, (0, 2)).bottom, filled(path, (0, 2), (1, 0))]
[((1, -1), (-1, 1)), 2, ((2, 1, 0), 2)]

>>> from fourcords.inverses import inverse, solve, paired, determinant, changed_inverse
>>> one = Form([[2, 1], [1, 2]])
>>> [inverse(one).entries, inverse(one).bottom, inverse(Form([[1, 1], [1, 1]])).entries]
[((2, -1), (-1, 2)), 3, ((1, 0), (0, 0))]
>>> [solve(one, ((1, 0), 1)), paired(one, Form([[1, 1], [1, 1]])), determinant(one)]
[((2, -1), 3), (6, 1), (3, 1)]
>>> [changed_inverse(Form([[1]]), (1,), (1, 1)).entries, changed_inverse(Form([[1]]), (1,), (1, 1)).bottom]
[((1,),), 2]

>>> from fourcords.shares import shares
>>> shares(RowList(1, [((1,), 1), ((1,), 3)]))
((1, 4), (3, 4))

>>> from fourcords.stands import Stand
>>> stand = Stand(RowList(1, [((1,), 1)]), (10,), (0, 1), (3, 1))
>>> [stand.low_measure, stand.high_measure, stand.numbers((1, 2), (1, 1))]
[(1, 1), (1, 2), (((1, 1), (2, 1)),)]
>>> [stand.room((1, 2), (1, 1), 0), stand.lets((1, 2), (1, 1), 0, 4)]
[(5, 10), False]

>>> from fourcords.grades import grade_factor, grade_steps, grade_fences, grade_unit, grade_moves, grade_gap
>>> [grade_factor(2), grade_steps(2, 3), grade_fences(2, 1), grade_unit(2), grade_moves(2), grade_gap(2)]
[(29, 3), 12, ((-2, 1), (6, 1)), 10, ((1, 1), (10, 3)), (1, 30)]

>>> from fourcords.runs import Run, picks, resumed
>>> run = Run(RowList(1, [((1,), 1)]))
>>> [run.left, run.room(0), run.pick(), list(picks(run))]
[4, (10, 33), (0, 10), [(0, 10), (0, 10), (0, 10), (0, 10)]]

>>> from fourcords.thinning import thinned, thinned_run
>>> [thinned(RowList(1, [((1,), 1)])).pairs, thinned_run(RowList(1, [((1,), 1)])).left]
[(((1,), 2),), 0]

>>> from fourcords.webs import Web
>>> [Web.complete(3).ties, Web.ring(4).ties, Web.grid(2, 2).ties]
[((0, 1, 1), (0, 2, 1), (1, 2, 1)), ((0, 1, 1), (1, 2, 1), (2, 3, 1), (0, 3, 1)), ((0, 1, 1), (0, 2, 1), (1, 3, 1), (2, 3, 1))]

>>> from fourcords.parts import parts
>>> parts(Web(4, [(3, 1, 2)]))
((0,), (1, 3), (2,))

>>> from fourcords.cuts import cut, sides, least_cut, cut_range
>>> [cut(Web.complete(3), (0,)), list(sides(3)), least_cut(Web.ring(4), 0, 2)]
[(2, 1), [(0,), (0, 1), (0, 2)], ((2, 1), (0,))]
>>> cut_range(Web.complete(3), Web(3, [(0, 1, 2), (1, 2, 2)]))
(((1, 1), (0,)), ((2, 1), (0, 2)))

>>> from fourcords.thinwebs import thinned_web
>>> thinned_web(Web.complete(2)).ties
((0, 1, 2),)

>>> from fourcords.currents import heights, tie_currents, outflow
>>> web = Web(2, [(0, 1, 2)])
>>> [heights(web, ((1, -1), 1)), tie_currents(web, ((1, 0), 2)), outflow(web, ((1,), 1))]
[((1, 0), 2), ((1,), 1), ((1, -1), 1)]

>>> from fourcords.losses import flow_loss, height_bound, least_loss
>>> [flow_loss(web, ((1,), 1)), height_bound(web, ((1, -1), 1), ((1, 0), 1)), least_loss(web, ((1, -1), 1))]
[(1, 2), (0, 1), (1, 2)]

>>> from fourcords.resistances import resistance, tie_shares, forest_weight
>>> [resistance(Web.complete(3), 0, 1), tie_shares(Web.complete(3)), forest_weight(Web.complete(3))]
[(2, 3), ((2, 3), (2, 3), (2, 3)), (3, 1)]

>>> from fourcords.seenwebs import seen_web
>>> seen_web(Web.ring(4), (0, 2)).ties
((0, 1, 1),)

>>> from fourcords.rounds import rounds, rounds_needed
>>> stops = list(rounds(Form([[1]]), Form([[2]]), (2, 1), ((1,), 1), count=1))
>>> [stops[0].heights, stops[0].low, stops[0].high, stops[1].heights, stops[1].low, stops[1].high]
[((0,), 1), (1, 2), (1, 1), ((2,), 3), (17, 18), (1, 1)]
>>> rounds_needed((29, 3), (1, 100))
12

>>> from fourcords.surveys import Survey, misfit, best_guess, least_misfit
>>> survey = Survey(1, [((1,), 1, 1), ((1,), 4, 1)])
>>> [best_guess(survey), least_misfit(survey), misfit(survey, ((0,), 1))]
[((5,), 2), (9, 2), (17, 1)]

>>> from fourcords.questions import spread
>>> spread(survey, (1,))
(1, 2)

>>> from fourcords.thintrees import ThinTree, tree_factor
>>> tree = ThinTree(1, height=1)
>>> tree.put(0, RowList(1, [((1,), 1)]))
>>> [tree.root.pairs, tree.thinnings, tree_factor(tree)]
[(((1,), 2),), 1, (29, 3)]

>>> from fourcords.rownotes import format_rows
>>> format_rows(RowList(2, [((1, -1), 3)], bottom=4))
'rows 1 size 2 over 4\\n3: 1 -1\\n'

>>> from fourcords.webnotes import format_web
>>> format_web(Web(3, [(2, 0, 5)]))
'web 1 places 3 over 1\\n0-2: 5\\n'

>>> from fourcords.lognotes import format_log
>>> format_log(((0, 10),))
'log 1\\ntake 0 by 10\\n'

>>> from fourcords.squarenotes import format_squares
>>> format_squares(((1, 2, (2, 1)),))
'squares 1 size 2\\n1/2 of 2 1\\n'
'''


class Examples(unittest.TestCase):
    def check(self, text, count):
        example = doctest.DocTestParser().get_doctest(text, {}, "examples", None, 0)
        told = []
        results = doctest.DocTestRunner().run(example, out=told.append)
        self.assertEqual((results.failed, "".join(told)), (0, ""))
        self.assertEqual(results.attempted, count)

    def test_examples_of_the_interface(self):
        self.check(EXAMPLES, 85)

    def test_examples_of_the_readme(self):
        self.check(README.read_text(encoding="ascii").replace("```", ""), 51)


if __name__ == "__main__":
    unittest.main()
