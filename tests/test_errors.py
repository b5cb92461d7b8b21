import unittest

from fourcords import errors
from reference import has_list

FIELDS = {
    "ZeroBottom": (), "NotSquare": ("row",), "NotSymmetric": ("row", "column"), "SizesDiffer": ("one", "two"),
    "BelowZero": ("point",), "BadRow": ("index",), "BadWeight": ("index",), "NoBasis": (), "NoSolution": ("point",),
    "NoInverse": (), "OutsideFence": ("side", "point"), "RunOver": (), "BadPick": ("index", "count"),
    "BadStep": ("step",), "StepsLeft": ("left",), "BadTie": ("index",), "SamePlace": ("place",),
    "NotWithin": ("side", "point"), "BadSlot": ("slot",), "BadNotation": ("line",),
}


class Errors(unittest.TestCase):
    def test_every_error_has_its_fields(self):
        for name, fields in FIELDS.items():
            with self.subTest(name):
                values = list(range(3, 3 + len(fields)))
                error = getattr(errors, name)(*values)
                self.assertEqual([getattr(error, field) for field in fields], values)
                self.assertEqual(sorted(vars(error)), sorted(fields))

    def test_families(self):
        self.assertEqual(errors.CordError.__bases__, (ValueError,))
        for name in FIELDS:
            with self.subTest(name):
                kind = getattr(errors, name)
                self.assertEqual(kind.__bases__, (errors.CordError,))
                self.assertEqual(kind.__module__, "fourcords.errors")
                error = kind(*[1] * len(FIELDS[name]))
                self.assertIsInstance(error, errors.CordError)
                self.assertIsInstance(error, ValueError)
                for other in FIELDS:
                    self.assertEqual(isinstance(error, getattr(errors, other)), other == name)

    def test_lists_become_tuples_at_every_level(self):
        for name, fields in FIELDS.items():
            for at, field in enumerate(fields):
                with self.subTest(name, field=field):
                    given = [1, [2, (3, [4])]]
                    values = [given if k == at else 5 for k in range(len(fields))]
                    error = getattr(errors, name)(*values)
                    given[1].append(9)
                    given.append(9)
                    self.assertEqual(getattr(error, field), (1, (2, (3, (4,)))))
                    self.assertFalse(has_list(getattr(error, field)))

    def test_sides_are_strings(self):
        error = errors.OutsideFence("low", [1, 2])
        self.assertEqual((error.side, error.point), ("low", (1, 2)))
        error = errors.NotWithin("over", (1, 2))
        self.assertEqual((error.side, error.point), ("over", (1, 2)))


if __name__ == "__main__":
    unittest.main()
