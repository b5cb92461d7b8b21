"""Names, arguments and places of what the interface lists."""

import importlib
import inspect
import unittest

FUNCTIONS = {
    "ratios": {"fraction": 2, "added": 2, "multiplied": 2, "compared": 2, "floored": 1, "ceiling": 1, "vector": 2},
    "judging": {"is_squares": 2, "judge": 1, "leads": 1, "rank": 1, "free_points": 1},
    "sparing": {"dependence": 1, "spared": 1},
    "bases": {"coordinates": 3, "basis_of": 1, "basis_factor": 1, "missed_point": 2},
    "comparing": {"within": 4, "is_within": 6},
    "factors": {"least_high": (2, "bottom"), "greatest_low": (2, "bottom")},
    "inverses": {"inverse": 1, "solve": 2, "paired": 2, "sandwich": 2, "changed_inverse": 3, "determinant": 1},
    "seen": {"seen_from": 2, "filled": 3},
    "shares": {"shares": 1},
    "grades": {"grade_steps": 2, "grade_fences": 2, "grade_unit": 1, "grade_moves": 1, "grade_gap": 1,
               "grade_factor": 1},
    "runs": {"picks": (1, "order"), "resumed": (2, "grade")},
    "thinning": {"thinned": (1, "grade", "order"), "thinned_run": (1, "grade", "order")},
    "parts": {"parts": 1},
    "cuts": {"cut": 2, "sides": 1, "narrow_sides": 2, "least_cut": 3, "cut_range": 2},
    "thinwebs": {"thinned_web": (1, "grade", "order")},
    "currents": {"heights": 2, "tie_currents": 2, "outflow": 2},
    "losses": {"flow_loss": 2, "height_bound": 3, "least_loss": 2},
    "resistances": {"resistance": 3, "tie_shares": 1, "forest_weight": 1},
    "seenwebs": {"seen_web": 2},
    "rounds": {"rounds": (4, "count", "start"), "rounds_needed": 2},
    "surveys": {"misfit": 2, "best_guess": 1, "least_misfit": 1, "few_readings": (1, "grade", "order")},
    "questions": {"spread": 2, "worst_question": (2, "bottom")},
    "thintrees": {"tree_factor": 1},
    "rownotes": {"format_rows": 1, "parse_rows": 1},
    "webnotes": {"format_web": 1, "parse_web": 1},
    "lognotes": {"format_log": 1, "parse_log": 1},
    "squarenotes": {"format_squares": 1, "parse_squares": 1},
}
METHODS = {
    "forms.Form": {"__init__": (1, "bottom"), "__call__": 1, "between": 2, "at": 1, "applied": 1, "scaled": 1},
    "rowlists.RowList": {"__init__": (2, "bottom"), "scaled": 1, "picked": 1},
    "stands.Stand": {"__init__": (4, "unit"), "numbers": 2, "moved": 4, "lets": 4, "room": 3},
    "runs.Run": {"__init__": (1, "grade"), "taken": 2, "room": 1, "pick": (0, "order"), "kept": 0},
    "webs.Web": {"__init__": (2, "bottom"), "picked": 1},
    "surveys.Survey": {"__init__": (2, "bottom")},
    "thintrees.ThinTree": {"__init__": (1, "height", "grade"), "put": 2, "held": 1, "at": 2},
}
# What is passed by name and may be left out.
DEFAULTS = {"grade": 2, "order": None, "unit": 10, "strength": 1, "start": None}
CLASSES = {
    "forms": {"Form": ["__init__", "__add__", "__sub__", "__eq__", "__call__", "between", "at", "applied", "scaled",
                       "zero", "square"]},
    "rowlists": {"RowList": ["__init__", "__len__", "__iter__", "__add__", "__eq__", "scaled", "picked"]},
    "judging": {"Judgement": []},
    "comparing": {"Within": []},
    "stands": {"Stand": ["__init__", "numbers", "moved", "lets", "room"]},
    "runs": {"Run": ["__init__", "taken", "room", "pick", "kept"]},
    "webs": {"Web": ["__init__", "__len__", "__iter__", "__eq__", "picked", "complete", "ring", "grid", "of_rows"]},
    "rounds": {"Stop": []},
    "surveys": {"Survey": ["__init__", "__len__"]},
    "thintrees": {"ThinTree": ["__init__", "put", "root", "held", "at", "thinnings"]},
}
FIELDS = {
    "stands.Stand": "rows counts low high unit form low_measure high_measure",
    "runs.Run": "rows grade log stand left",
    "webs.Web": "places ties bottom rows form",
    "surveys.Survey": "size readings bottom rows",
}


def module(name):
    return importlib.import_module("fourcords." + name)


class Interface(unittest.TestCase):
    def check(self, function, asked):
        count, *named = asked if isinstance(asked, tuple) else (asked,)
        parameters = list(inspect.signature(function).parameters.values())
        by_place = [p for p in parameters if p.kind == p.POSITIONAL_OR_KEYWORD]
        by_name = [p for p in parameters if p.kind == p.KEYWORD_ONLY]
        self.assertEqual((len(by_place), [p.name for p in by_name]), (count, named))
        self.assertTrue(all(p.default is p.empty for p in by_place))
        for p in by_name:
            if p.name in DEFAULTS:
                self.assertEqual(p.default, DEFAULTS[p.name])

    def test_functions(self):
        for name, functions in FUNCTIONS.items():
            for told, asked in functions.items():
                with self.subTest(told):
                    function = getattr(module(name), told)
                    self.assertEqual(function.__module__, "fourcords." + name)
                    self.check(function, asked)

    def test_methods(self):
        for where, methods in METHODS.items():
            name, kind = where.split(".")
            for told, (count, *named) in [(k, v if isinstance(v, tuple) else (v,)) for k, v in methods.items()]:
                with self.subTest(where + "." + told):
                    self.check(vars(getattr(module(name), kind))[told], (count + 1, *named))

    def test_class_methods_of_webs(self):
        web = module("webs").Web
        for made, asked in ((web.complete, (1, "strength")), (web.ring, (1, "strength")),
                            (web.grid, (2, "strength")), (web.of_rows, 1)):
            self.check(made, asked)

    def test_what_must_be_passed_by_name(self):
        for name, told, asked in (("factors", "least_high", "bottom"), ("factors", "greatest_low", "bottom"),
                                  ("rounds", "rounds", "count"), ("questions", "worst_question", "bottom"),
                                  ("thintrees", "ThinTree", "height")):
            parameter = inspect.signature(getattr(module(name), told)).parameters[asked]
            self.assertIs(parameter.default, parameter.empty)

    def test_classes(self):
        for name, classes in CLASSES.items():
            for told, methods in classes.items():
                kind = getattr(module(name), told)
                self.assertEqual(kind.__module__, "fourcords." + name)
                for method in methods:
                    self.assertIn(method, vars(kind))

    def test_bottoms_are_passed_by_name(self):
        form, rows, web = module("forms").Form, module("rowlists").RowList, module("webs").Web
        survey = module("surveys").Survey
        for kind, arguments in ((form, ([[1]],)), (rows, (1, [])), (web, (1, [])), (survey, (1, []))):
            bottom = inspect.signature(kind).parameters["bottom"]
            self.assertEqual((bottom.kind, bottom.default), (bottom.KEYWORD_ONLY, 1))
            with self.assertRaises(TypeError):
                kind(*arguments, 2)
            self.assertEqual(kind(*arguments).bottom, 1)

    def test_fields_of_objects(self):
        rows = module("rowlists").RowList(1, [((1,), 2)])
        made = {"stands.Stand": module("stands").Stand(rows, (1,), (0, 1), (9, 1)), "runs.Run": module("runs").Run(rows),
                "webs.Web": module("webs").Web(2, []), "surveys.Survey": module("surveys").Survey(2, [])}
        for name, fields in FIELDS.items():
            self.assertEqual(sorted(vars(made[name])), sorted(fields.split()))
        tree = module("thintrees").ThinTree(3, height=2, grade=4)
        self.assertEqual((tree.size, tree.height, tree.grade, tree.thinnings), (3, 2, 4, 0))
        for name in ("root", "thinnings"):
            with self.assertRaises(AttributeError):
                setattr(tree, name, 1)

    def test_fields_of_answers(self):
        form = module("forms").Form([[1]])
        told = module("judging").judge(form)
        self.assertIsInstance(told, module("judging").Judgement)
        self.assertEqual(sorted(vars(told)), ["holds", "point", "squares"])
        told = module("comparing").within(form, form, (0, 1), (1, 1))
        self.assertIsInstance(told, module("comparing").Within)
        self.assertEqual(sorted(vars(told)), ["holds", "over", "point", "side", "under"])
        for told in module("rounds").rounds(form, form, (1, 1), ((1,), 1), count=1):
            self.assertIsInstance(told, module("rounds").Stop)
            self.assertEqual(sorted(vars(told)), ["heights", "high", "low", "residual"])


if __name__ == "__main__":
    unittest.main()
