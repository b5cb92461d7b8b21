"""Points 2 to 5, for every function and method of the program."""

import copy
import unittest
from math import gcd

from fourcords import (bases, comparing, currents, cuts, errors, factors, grades, inverses, judging, lognotes, losses,
                       parts, questions, ratios, resistances, rownotes, seen, seenwebs, shares, sparing, squarenotes,
                       surveys, thinning, thintrees, thinwebs, webnotes)
from fourcords.errors import CordError
from fourcords.forms import Form
from fourcords.rounds import Stop, rounds, rounds_needed
from fourcords.rowlists import RowList
from fourcords.runs import Run, picks, resumed
from fourcords.stands import Stand
from fourcords.surveys import Survey
from fourcords.thintrees import ThinTree
from fourcords.webs import Web
from reference import BIG, HUGE, as_lists, as_tuples, has_list

FORM = Form([[2, 1, 0], [1, 2, 0], [0, 0, 0]], bottom=3)
OTHER = Form([[4, 1, 0], [1, 4, 0], [0, 0, 0]])
BELOW = Form([[1, 2, 0], [2, 1, 0], [0, 0, 0]])
PAIRS = [([1, 0, 2], 2), ([0, 1, 1], 4), ([1, 1, 3], 6), ([1, 0, 2], 2), ([0, 0, 0], 8)]
ROWS = RowList(3, PAIRS, bottom=6)
FEW = RowList(3, PAIRS[:1])
STAND = Stand(ROWS, [30, 5, 40, 10, 0], [-2, 6], [40, 2], unit=4)
RUN = Run(ROWS)
LOG = [[2, 200], [3, 267]]
ORDER = [4, 2, 3, 1, 0]
TIES = [[2, 0, 4], [0, 1, 6], [1, 2, 2], [0, 2, 8]]
WEB = Web(4, TIES, bottom=6)
OTHER_WEB = Web(4, [[0, 1, 3]])
READINGS = [([1, 0], 3, 2), ([0, 1], -1, 4), ([1, 1], 5, 6), ([1, 0], 4, 2)]
SURVEY = Survey(2, READINGS, bottom=8)
FEW_READINGS = surveys.few_readings(SURVEY)
SUM_OF_TWO = Survey(2, [([1, 1], 5, 2)])
SQUARES = [(2, 4, [2, 1, 0]), (3, 2, [0, 1, 0])]

def all_stops(form, helper, factor, demand, start):
    return tuple(rounds(form, helper, factor, demand, count=2, start=start))


def told_by_tree(slot, rows):
    """What a tree tells behind putting a list into a slot."""
    tree = ThinTree(3, height=1)
    tree.put(1, FEW)
    put = tree.put(slot, rows)
    return put, tree.root, tree.held(slot), tree.at(1, 0), tree.thinnings, thintrees.tree_factor(tree)


# What is asked, and its arguments with lists and with fractions and vectors that are not in lowest terms.
QUESTIONS = [
    ("vector", ratios.vector, [[2, 4, -6], -4]),
    ("added", ratios.added, [[2, 4], [3, 9]]),
    ("multiplied", ratios.multiplied, [[2, 4], [3, 9]]),
    ("compared", ratios.compared, [[2, 4], [3, 9]]),
    ("floored", ratios.floored, [[-6, 4]]),
    ("ceiling", ratios.ceiling, [[-6, 4]]),
    ("Form", Form, [[[2, 1], [1, 2]]]),
    ("Form.zero", Form.zero, [3]),
    ("Form.square", Form.square, [[1, -2, 0]]),
    ("value", FORM, [[1, 2, 3]]),
    ("between", FORM.between, [[1, 2, 3], [3, 2, 1]]),
    ("at", FORM.at, [[[2, 4, 6], 4]]),
    ("applied", FORM.applied, [[[2, 4, 6], 4]]),
    ("form.scaled", FORM.scaled, [[-6, 4]]),
    ("one + two", lambda: FORM + OTHER, []),
    ("one - two", lambda: FORM - OTHER, []),
    ("is_squares", judging.is_squares, [FORM, SQUARES]),
    ("judge", judging.judge, [FORM]),
    ("judge below", judging.judge, [BELOW]),
    ("leads", judging.leads, [FORM]),
    ("rank", judging.rank, [FORM]),
    ("free_points", judging.free_points, [FORM]),
    ("free_points below", judging.free_points, [BELOW]),
    ("RowList", RowList, [3, PAIRS]),
    ("BadRow", RowList, [2, PAIRS]),
    ("BadWeight", RowList, [1, [[[1], 1], [[1], 0]]]),
    ("rows.scaled", ROWS.scaled, [[6, 4]]),
    ("picked", ROWS.picked, [[2, 0, 2]]),
    ("rows + rows", lambda: ROWS + FEW, []),
    ("dependence", sparing.dependence, [ROWS]),
    ("spared", sparing.spared, [ROWS]),
    ("coordinates", bases.coordinates, [ROWS, [0, 1], 2]),
    ("NoBasis", bases.coordinates, [ROWS, [0, 3], 2]),
    ("basis_of", bases.basis_of, [ROWS]),
    ("basis_factor", bases.basis_factor, [ROWS]),
    ("missed_point", bases.missed_point, [ROWS, FEW]),
    ("within", comparing.within, [FORM, OTHER, [2, 2], [30, 2]]),
    ("within under", comparing.within, [FORM, OTHER, [60, 2], [30, 2]]),
    ("within over", comparing.within, [FORM, OTHER, [2, 2], [3, 2]]),
    ("is_within", comparing.is_within, [FORM, FORM, [0, 2], [2, 2], SQUARES, []]),
    ("inverse", inverses.inverse, [FORM]),
    ("solve", inverses.solve, [FORM, [[2, 4, 0], 6]]),
    ("NoSolution", inverses.solve, [FORM, [[2, 4, 2], 6]]),
    ("paired", inverses.paired, [FORM, OTHER]),
    ("sandwich", inverses.sandwich, [FORM, OTHER]),
    ("changed_inverse", inverses.changed_inverse, [FORM, [1, 2, 0], [-2, 6]]),
    ("NoInverse", inverses.changed_inverse, [Form([[1]]), [1], [-2, 2]]),
    ("SizesDiffer", inverses.changed_inverse, [FORM, [1], [-2, 2]]),
    ("determinant", inverses.determinant, [FORM]),
    ("seen_from", seen.seen_from, [FORM, [1, 0]]),
    ("seen_from below", seen.seen_from, [BELOW, [1]]),
    ("filled", seen.filled, [FORM, [1, 2], [5, 7]]),
    ("filled below", seen.filled, [BELOW, [1], [5]]),
    ("shares", shares.shares, [ROWS]),
    ("Stand", lambda *told: Stand(*told, unit=4), [ROWS, [30, 5, 40, 10, 0], [-2, 6], [40, 2]]),
    ("OutsideFence low", Stand, [ROWS, [30, 5, 40, 10, 0], [60, 2], [4, 2]]),
    ("OutsideFence high", Stand, [ROWS, [30, 5, 40, 10, 0], [-2, 6], [2, 4]]),
    ("numbers", STAND.numbers, [[2, 8], [6, 3]]),
    ("moved", STAND.moved, [[2, 8], [6, 3], 1, 5]),
    ("moved outside", STAND.moved, [[2, 8], [6, 3], 1, 50000]),
    ("lets", STAND.lets, [[2, 8], [6, 3], 1, 20]),
    ("stand.room", STAND.room, [[2, 8], [6, 3], 1]),
    ("low fence", STAND.room, [[80, 8], [6, 3], 1]),
    ("Run", Run, [ROWS]),
    ("taken", RUN.taken, [2, 200]),
    ("BadPick", RUN.taken, [0, 1]),
    ("run.room", RUN.room, [2]),
    ("pick", lambda order: RUN.pick(order=order), [ORDER]),
    ("picks", lambda order: tuple(picks(RUN, order=order)), [ORDER]),
    ("resumed", resumed, [ROWS, LOG]),
    ("BadStep", resumed, [ROWS, LOG + [[0, 0]]]),
    ("StepsLeft", RUN.kept, []),
    ("kept", lambda order: thinning.thinned_run(ROWS, order=order).kept(), [ORDER]),
    ("thinned", lambda order: thinning.thinned(ROWS, order=order), [ORDER]),
    ("thinned_run", lambda order: thinning.thinned_run(ROWS, order=order), [ORDER]),
    ("Web", Web, [4, TIES]),
    ("BadTie", Web, [2, TIES]),
    ("BadWeight tie", Web, [3, [[0, 1, 0]]]),
    ("web.picked", WEB.picked, [[2, 0, 2]]),
    ("complete", lambda: Web.complete(4, strength=3), []),
    ("ring", lambda: Web.ring(4, strength=3), []),
    ("grid", lambda: Web.grid(4, 2, strength=3), []),
    ("of_rows", Web.of_rows, [WEB.rows]),
    ("BadRow of_rows", Web.of_rows, [ROWS]),
    ("parts", parts.parts, [WEB]),
    ("cut", cuts.cut, [WEB, [2, 1]]),
    ("sides", lambda places: tuple(cuts.sides(places)), [5]),
    ("narrow_sides", cuts.narrow_sides, [WEB, [14, 6]]),
    ("least_cut", cuts.least_cut, [WEB, 2, 0]),
    ("SamePlace", cuts.least_cut, [WEB, 2, 2]),
    ("cut_range", cuts.cut_range, [WEB, OTHER_WEB]),
    ("SizesDiffer cut_range", cuts.cut_range, [WEB, Web(3, [])]),
    ("thinned_web", lambda order: thinwebs.thinned_web(WEB, order=order), [[3, 2, 0, 1]]),
    ("heights", currents.heights, [WEB, [[4, -6, 2, 0], 4]]),
    ("NoSolution heights", currents.heights, [WEB, [[4, -6, 0, 2], 4]]),
    ("tie_currents", currents.tie_currents, [WEB, [[4, -6, 2, 0], 4]]),
    ("outflow", currents.outflow, [WEB, [[4, -6, 2, 0], 4]]),
    ("flow_loss", losses.flow_loss, [WEB, [[4, -6, 2, 0], 4]]),
    ("height_bound", losses.height_bound, [WEB, [[4, -6, 2, 0], 4], [[2, 0, -2, 6], 6]]),
    ("least_loss", losses.least_loss, [WEB, [[4, -6, 2, 0], 4]]),
    ("NoSolution least_loss", losses.least_loss, [WEB, [[4, -6, 0, 2], 4]]),
    ("resistance", resistances.resistance, [WEB, 2, 0]),
    ("resistance None", resistances.resistance, [WEB, 2, 3]),
    ("tie_shares", resistances.tie_shares, [WEB]),
    ("forest_weight", resistances.forest_weight, [WEB]),
    ("seen_web", seenwebs.seen_web, [WEB, [3, 2, 0]]),
    ("rounds", all_stops, [FORM, FORM, [4, 2], [[2, 4, 0], 6], [[2, 4, 6], 4]]),
    ("rounds below", all_stops, [BELOW, FORM, [4, 2], [[2, 4, 0], 6], [[2, 4, 6], 4]]),
    ("NotWithin", all_stops, [FORM, OTHER, [4, 2], [[2, 4, 0], 6], [[2, 4, 6], 4]]),
    ("NoSolution rounds", all_stops, [FORM, FORM, [4, 2], [[2, 4, 2], 6], [[2, 4, 6], 4]]),
    ("rounds_needed", rounds_needed, [[58, 6], [2, 200]]),
    ("Survey", Survey, [2, READINGS]),
    ("BadRow survey", Survey, [1, READINGS]),
    ("BadWeight survey", Survey, [1, [[[1], 3, 1], [[1], 3, 0]]]),
    ("misfit", surveys.misfit, [SURVEY, [[4, -6], 4]]),
    ("best_guess", surveys.best_guess, [SURVEY]),
    ("least_misfit", surveys.least_misfit, [SURVEY]),
    ("few_readings", lambda order: surveys.few_readings(SURVEY, order=order), [[3, 2, 0, 1]]),
    ("spread", questions.spread, [SURVEY, [2, -1]]),
    ("spread None", questions.spread, [SUM_OF_TWO, [2, -1]]),
    ("worst_question", lambda *told: questions.worst_question(*told, bottom=7), [SURVEY, FEW_READINGS]),
    ("worst_question None", lambda *told: questions.worst_question(*told, bottom=7), [SURVEY, SURVEY]),
    ("tree", told_by_tree, [0, ROWS]),
    ("BadSlot", told_by_tree, [2, ROWS]),
    ("SizesDiffer tree", told_by_tree, [0, RowList(1, [])]),
    ("format_rows", rownotes.format_rows, [ROWS]),
    ("parse_rows", rownotes.parse_rows, [rownotes.format_rows(ROWS)]),
    ("BadNotation rows", rownotes.parse_rows, ["rows 1 size 1 over 1\n1: -0\n"]),
    ("format_web", webnotes.format_web, [WEB]),
    ("parse_web", webnotes.parse_web, [webnotes.format_web(WEB)]),
    ("BadNotation web", webnotes.parse_web, ["web 1 places 2 over 2\n0-1: 2\n"]),
    ("format_log", lognotes.format_log, [LOG]),
    ("parse_log", lognotes.parse_log, [lognotes.format_log(LOG)]),
    ("BadNotation log", lognotes.parse_log, ["log 1"]),
    ("format_squares", squarenotes.format_squares, [SQUARES]),
    ("parse_squares", squarenotes.parse_squares, [squarenotes.format_squares(SQUARES)]),
    ("BadNotation squares", squarenotes.parse_squares, [""]),
    ("grades", lambda *told: (grades.grade_steps(*told), grades.grade_fences(*told)), [3, 2]),
    ("moves", lambda k: (grades.grade_unit(k), grades.grade_moves(k), grades.grade_gap(k), grades.grade_factor(k)), [3]),
]

LOWEST = {
    "added": [(1, 2), (1, 3)], "multiplied": [(1, 2), (1, 3)], "compared": [(1, 2), (1, 3)], "floored": [(-3, 2)],
    "ceiling": [(-3, 2)], "at": [((1, 2, 3), 2)], "applied": [((1, 2, 3), 2)], "form.scaled": [(-3, 2)],
    "rows.scaled": [(3, 2)], "within": [FORM, OTHER, (1, 1), (15, 1)], "within under": [FORM, OTHER, (30, 1), (15, 1)],
    "within over": [FORM, OTHER, (1, 1), (3, 2)], "solve": [FORM, ((1, 2, 0), 3)], "NoSolution": [FORM, ((1, 2, 1), 3)],
    "changed_inverse": [FORM, (1, 2, 0), (-1, 3)], "is_within": [FORM, FORM, (0, 1), (1, 1), [(1, 2, (2, 1, 0)),
                                                                                         (3, 2, (0, 1, 0))], ()],
    "is_squares": [FORM, [(1, 2, (2, 1, 0)), (3, 2, (0, 1, 0))]], "vector": [(-1, -2, 3), 2],
    "NoInverse": [Form([[1]]), (1,), (-1, 1)], "Stand": [ROWS, (30, 5, 40, 10, 0), (-1, 3), (20, 1)],
    "OutsideFence low": [ROWS, (30, 5, 40, 10, 0), (30, 1), (2, 1)], "numbers": [(1, 4), (2, 1)],
    "OutsideFence high": [ROWS, (30, 5, 40, 10, 0), (-1, 3), (1, 2)], "moved": [(1, 4), (2, 1), 1, 5],
    "moved outside": [(1, 4), (2, 1), 1, 50000], "lets": [(1, 4), (2, 1), 1, 20], "stand.room": [(1, 4), (2, 1), 1],
    "low fence": [(10, 1), (2, 1), 1], "narrow_sides": [WEB, (7, 3)], "heights": [WEB, ((2, -3, 1, 0), 2)],
    "NoSolution heights": [WEB, ((2, -3, 0, 1), 2)], "tie_currents": [WEB, ((2, -3, 1, 0), 2)],
    "outflow": [WEB, ((2, -3, 1, 0), 2)], "flow_loss": [WEB, ((2, -3, 1, 0), 2)],
    "height_bound": [WEB, ((2, -3, 1, 0), 2), ((1, 0, -1, 3), 3)], "least_loss": [WEB, ((2, -3, 1, 0), 2)],
    "NoSolution least_loss": [WEB, ((2, -3, 0, 1), 2)], "rounds_needed": [(29, 3), (1, 100)],
    "rounds": [FORM, FORM, (2, 1), ((1, 2, 0), 3), ((1, 2, 3), 2)],
    "rounds below": [BELOW, FORM, (2, 1), ((1, 2, 0), 3), ((1, 2, 3), 2)],
    "NotWithin": [FORM, OTHER, (2, 1), ((1, 2, 0), 3), ((1, 2, 3), 2)],
    "NoSolution rounds": [FORM, FORM, (2, 1), ((1, 2, 1), 3), ((1, 2, 3), 2)], "misfit": [SURVEY, ((2, -3), 2)],
}
PASSED = (FORM, OTHER, BELOW, ROWS, FEW, STAND, RUN, WEB, OTHER_WEB, SURVEY, FEW_READINGS, SUM_OF_TWO)
OBJECTS = (Form, RowList, Stand, Run, Web, Stop, Survey)


def plain(answer):
    """The answer with the fields of objects instead of the objects."""
    if isinstance(answer, OBJECTS) or hasattr(answer, "holds"):
        return {name: plain(field) for name, field in vars(answer).items()}
    if isinstance(answer, tuple):
        return tuple(plain(part) for part in answer)
    return answer


def answer_to(ask, arguments):
    try:
        return plain(ask(*arguments))
    except CordError as error:
        return type(error), vars(error)


def lists_in(answer):
    if isinstance(answer, dict):
        return any(lists_in(part) for part in answer.values())
    if isinstance(answer, tuple):
        return any(lists_in(part) for part in answer)
    return has_list(answer)


class Arguments(unittest.TestCase):
    def test_lists_and_tuples_at_every_level(self):
        for name, ask, arguments in QUESTIONS:
            with self.subTest(name):
                first = answer_to(ask, as_tuples(arguments))
                self.assertEqual(answer_to(ask, as_lists(arguments)), first)
                self.assertEqual(answer_to(ask, arguments), first)
                self.assertFalse(lists_in(first))

    def test_nothing_passed_is_changed(self):
        for name, ask, arguments in QUESTIONS:
            with self.subTest(name):
                given = as_lists(arguments)
                before = copy.deepcopy(given)
                objects = [(part, copy.deepcopy(plain(part))) for part in PASSED]
                answer_to(ask, given)
                for one, two in zip(given, before):
                    self.assertEqual(plain(one), plain(two))
                for part, fields in objects:
                    self.assertEqual(plain(part), fields)

    def test_what_is_returned_does_not_hang_on_what_was_passed(self):
        for name, ask, arguments in QUESTIONS:
            with self.subTest(name):
                given = as_lists(arguments)
                try:
                    answer = ask(*given)
                except CordError as error:
                    answer = error
                before = copy.deepcopy(plain(answer) if not isinstance(answer, CordError) else vars(answer))
                self.spoil(given)
                self.assertEqual(plain(answer) if not isinstance(answer, CordError) else vars(answer), before)

    def spoil(self, given):
        for at, part in enumerate(given):
            if isinstance(part, list):
                self.spoil(part)
                part.append(77)
            elif isinstance(part, int):
                given[at] = 99

    def test_equal_questions_have_equal_answers(self):
        for name, ask, arguments in QUESTIONS:
            with self.subTest(name):
                first = answer_to(ask, arguments)
                self.assertEqual(answer_to(ask, arguments), first)
                if name in LOWEST:
                    self.assertEqual(answer_to(ask, LOWEST[name]), first)
        one = RowList(3, as_tuples(PAIRS), bottom=6)
        two = RowList(3, [[row, 5 * weight] for row, weight in PAIRS], bottom=30)
        for ask in (sparing.dependence, sparing.spared, bases.basis_of, bases.basis_factor):
            self.assertEqual(plain(ask(one)), plain(ask(two)))
        self.assertEqual(bases.missed_point(one, FEW), bases.missed_point(two, FEW))
        wide = Form([[9 * x for x in row] for row in BELOW.entries], bottom=9)
        self.assertEqual(judging.judge(wide).point, judging.judge(BELOW).point)


class Errors(unittest.TestCase):
    """Every class of errors is raised by some question of the program, and keeps what it was raised with."""

    FIELDS = {
        "ZeroBottom": {}, "NotSquare": {"row": 1}, "NotSymmetric": {"row": 0, "column": 1},
        "SizesDiffer": {"one": 3, "two": 0}, "BelowZero": {"point": (1,)}, "BadRow": {"index": 0},
        "BadWeight": {"index": 0}, "NoBasis": {}, "NoSolution": {"point": (1,)}, "NoInverse": {},
        "OutsideFence": {"side": "low", "point": (1,)}, "RunOver": {}, "BadPick": {"index": 0, "count": 7},
        "BadStep": {"step": 0}, "StepsLeft": {"left": 8}, "BadTie": {"index": 1}, "SamePlace": {"place": 2},
        "NotWithin": {"side": "over", "point": (1,)}, "BadSlot": {"slot": 4}, "BadNotation": {"line": 2},
    }

    def asked(self):
        one, none = Form([[1]]), RowList(1, [])
        return {
            "ZeroBottom": lambda: ratios.vector([], 0), "NotSquare": lambda: Form([[1, 1], [1]]),
            "NotSymmetric": lambda: Form([[1, 1], [2, 1]]), "SizesDiffer": lambda: FORM + Form([]),
            "BelowZero": lambda: judging.rank(Form([[-1]])), "BadRow": lambda: RowList(2, [([1], 0)]),
            "BadWeight": lambda: RowList(1, [([1], 0)]), "NoBasis": lambda: bases.coordinates(ROWS, [1, 0], 2),
            "NoSolution": lambda: inverses.solve(Form([[0]]), ([1], 1)),
            "NoInverse": lambda: inverses.changed_inverse(one, [1], [-1, 1]),
            "OutsideFence": lambda: Stand(RowList(1, [([1], 1)]), [0], [0, 1], [1, 1]),
            "RunOver": lambda: Run(none).pick(), "BadPick": lambda: RUN.taken(0, 7),
            "BadStep": lambda: resumed(none, [[0, 1]]), "StepsLeft": lambda: RUN.kept(),
            "BadTie": lambda: Web(2, [[0, 1, 1], [0, 2, 0]]), "SamePlace": lambda: cuts.least_cut(WEB, 2, 2),
            "NotWithin": lambda: all_stops(one, Form([[3]]), [2, 1], [[0], 1], None),
            "BadSlot": lambda: ThinTree(1, height=2).put(4, none),
            "BadNotation": lambda: lognotes.parse_log("log 1\n"),
        }

    def test_every_class(self):
        asked = self.asked()
        self.assertEqual(sorted(asked), sorted(self.FIELDS))
        for name, ask in asked.items():
            with self.subTest(name):
                with self.assertRaises(CordError) as caught:
                    ask()
                self.assertIs(type(caught.exception), getattr(errors, name))
                told = {field: value for field, value in vars(caught.exception).items()}
                if "point" in told:
                    # Some point will do, whatever multiple it is.
                    self.assertTrue(type(told["point"]) is tuple and len(told["point"]) == 1 and told["point"][0] != 0)
                    told["point"] = (1,)
                self.assertEqual(told, self.FIELDS[name])


class Empty(unittest.TestCase):
    """The empty end of functions and classes that do not have it in a test of their own."""

    def test_no_pairs(self):
        for size in (0, 1, 4):
            rows, form = RowList(size, []), Form.zero(size)
            self.assertTrue(rows.form == form and rows == rows + rows == rows.scaled((7, 3)) == rows.picked(()))
            self.assertEqual((len(rows), list(rows), rows.bottom), (0, [], 1))
            self.assertTrue(sparing.spared(rows) == rows == thinning.thinned(rows) == thinning.thinned(rows, order=()))
            self.assertEqual((sparing.dependence(rows), bases.basis_of(rows), bases.basis_factor(rows)), (None, (), (1, 1)))
            self.assertEqual((bases.missed_point(rows, rows), shares.shares(rows)), (None, ()))
            self.assertEqual((judging.leads(form), judging.rank(form), len(judging.free_points(form))), ((), 0, size))
            self.assertTrue(inverses.inverse(form) == form == inverses.sandwich(form, form))
            self.assertEqual((inverses.paired(form, form), inverses.determinant(form)), ((0, 1), (int(size == 0), 1)))
            self.assertEqual(factors.least_high(form, form, bottom=9), 0)
            self.assertIsNone(factors.greatest_low(form, form, bottom=9))
            self.assertTrue(seen.seen_from(form, ()) == Form([]))
            self.assertEqual(seen.filled(form, (), ()), ((0,) * size, 1))
            stand = Stand(rows, (), (5, 1), (-5, 1))
            self.assertEqual((stand.low_measure, stand.high_measure, stand.numbers((1, 1), (1, 1))), ((0, 1), (0, 1), ()))
            self.assertTrue(stand.form == form)
            run = Run(rows)
            self.assertEqual((run.left, run.log, tuple(picks(run)), resumed(rows, ()).left), (0, (), (), 0))
            self.assertTrue(run.kept() == rows)
            self.assertTrue(Web.of_rows(rows) == Web(size, []))
            self.assertTrue(rownotes.parse_rows(rownotes.format_rows(rows)) == rows)
            tree = ThinTree(size, height=1)
            tree.put(0, rows)
            self.assertTrue(tree.root == tree.held(1) == rows)

    def test_no_ties(self):
        for places in (0, 1, 4):
            web, zeros = Web(places, []), ((0,) * places, 1)
            self.assertEqual((len(web), list(web), web.bottom), (0, [], 1))
            self.assertTrue(web == web.picked([]) == thinwebs.thinned_web(web) == thinwebs.thinned_web(web, order=()))
            self.assertEqual(parts.parts(web), tuple((place,) for place in range(places)))
            self.assertEqual((cuts.cut(web, ()), cuts.cut_range(web, web)), ((0, 1), None))
            self.assertEqual(cuts.narrow_sides(web, (0, 1)), tuple(cuts.sides(places)))
            self.assertEqual((currents.heights(web, zeros), currents.tie_currents(web, zeros)), (zeros, ((), 1)))
            self.assertEqual((currents.outflow(web, ((), 1)), losses.flow_loss(web, ((), 1))), (zeros, (0, 1)))
            self.assertEqual((losses.least_loss(web, zeros), losses.height_bound(web, zeros, zeros)), ((0, 1), (0, 1)))
            self.assertEqual((resistances.tie_shares(web), resistances.forest_weight(web)), ((), (1, 1)))
            self.assertTrue(seenwebs.seen_web(web, range(places)) == web)
            self.assertTrue(seenwebs.seen_web(web, ()) == Web(0, []))
            self.assertTrue(webnotes.parse_web(webnotes.format_web(web)) == web)
            self.assertEqual(len(all_stops(web.form, web.form, (1, 1), zeros, None)), 3)

    def test_no_readings_picks_and_squares(self):
        for size in (0, 1, 4):
            survey, zeros = Survey(size, []), ((0,) * size, 1)
            self.assertEqual((len(survey), survey.readings, survey.bottom), (0, (), 1))
            self.assertEqual((surveys.best_guess(survey), surveys.least_misfit(survey)), (zeros, (0, 1)))
            self.assertEqual((surveys.misfit(survey, zeros), surveys.few_readings(survey).readings), ((0, 1), ()))
            self.assertEqual(questions.spread(survey, (0,) * size), (0, 1))
            self.assertEqual(questions.worst_question(survey, survey, bottom=3), (3, None))
            self.assertTrue(judging.is_squares(Form.zero(size), ()))
            self.assertTrue(comparing.is_within(Form.zero(size), Form.zero(size), (1, 1), (0, 1), (), ()))
        self.assertEqual(lognotes.parse_log(lognotes.format_log(())), ())
        self.assertEqual(squarenotes.parse_squares(squarenotes.format_squares(())), ())


class Sizes(unittest.TestCase):
    def test_size_zero(self):
        form, rows = Form([]), RowList(0, [])
        self.assertEqual((form(()), form.between([], ()), form.at(((), 5))), ((0, 1), (0, 1), (0, 1)))
        self.assertEqual(form.applied(([], 5)), ((), 1))
        self.assertEqual((judging.judge(form).holds, judging.judge(form).squares), (True, ()))
        self.assertTrue(form == form + form == form - form == form.scaled((3, 7)) == Form.square(()) == rows.form)
        self.assertTrue(judging.is_squares(form, ((1, 1, ()),)))
        self.assertEqual((sparing.dependence(rows), bases.basis_of(rows), bases.missed_point(rows, rows)),
                         (None, (), None))
        self.assertEqual((sparing.spared(rows) == rows, bases.basis_factor(rows)), (True, (1, 1)))
        self.assertTrue(comparing.within(form, form, (9, 1), (1, 9)).holds)
        self.assertTrue(comparing.is_within(form, form, (9, 1), (1, 9), (), ()))
        self.assertEqual((factors.least_high(form, form, bottom=1), factors.greatest_low(form, form, bottom=1)), (0, None))
        self.assertEqual((inverses.determinant(form), inverses.paired(form, form)), ((1, 1), (0, 1)))
        self.assertTrue(inverses.inverse(form) == inverses.sandwich(form, form) == form)
        self.assertTrue(inverses.changed_inverse(form, (), (-1, 1)) == form)
        self.assertEqual(inverses.solve(form, ((), 1)), ((), 1))

    def test_size_ten_and_sixty_pairs_passed_on_and_on(self):
        pairs = [([(BIG - 7 * at) * (-1) ** (at // 3) if (at * at + k) % 11 < 6 else (at * k) % 13 for k in range(10)],
                  HUGE // (at + 1)) for at in range(60)]
        rows = RowList(10, pairs, bottom=HUGE - 2)
        form = rows.form
        self.assertEqual(judging.rank(form), 10)
        told = judging.judge(form)
        self.assertTrue(judging.is_squares(form, told.squares))
        turned = inverses.inverse(form)
        self.assertTrue(inverses.inverse(turned) == form)
        self.assertEqual(inverses.paired(form, turned), (10, 1))
        self.assertTrue(inverses.sandwich(form, turned) == form)
        self.assertEqual(inverses.solve(turned, form.applied(((1,) * 10, 1))),
                         form.applied(form.applied(((1,) * 10, 1))))
        basis = bases.basis_of(rows)
        squares = RowList(10, [(row, top) for top, _, row in told.squares])
        self.assertEqual(len(basis), 10)
        self.assertTrue(sparing.spared(squares) == squares)
        self.assertIsNone(bases.missed_point(rows, squares))
        held = comparing.within(turned, form, (0, 1), inverses.paired(inverses.inverse(turned), form))
        self.assertTrue(held.holds)
        self.assertTrue(comparing.is_within(turned, form, (0, 1), inverses.paired(form, form), held.under, held.over))
        more = rows.scaled(inverses.determinant(form))
        self.assertEqual(gcd(more.bottom, *[weight for _, weight in more]), 1)
        self.assertEqual(more.form, form.scaled(inverses.determinant(form)))
        self.assertEqual(factors.least_high(form, more.form, bottom=1),
                         ratios.ceiling(inverses.determinant(form)))
        self.assertEqual(factors.greatest_low(form, more.form, bottom=1),
                         ratios.floored(inverses.determinant(form)))


if __name__ == "__main__":
    unittest.main()
