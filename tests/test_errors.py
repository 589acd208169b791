"""The error classes: families, fields, and that fields are kept as they are."""

import unittest

from hungwall import errors

FAMILIES = {
    errors.PaperError: {errors.InvalidPaper: ("word", "at")},
    errors.PlanError: {errors.NotUsable: ("word", "at"), errors.Unfit: ("barring",)},
    errors.LiveError: {
        errors.InvalidEvent: ("event", "reason"),
        errors.NothingToUndo: ("steps",),
    },
    errors.TextError: {
        errors.InvalidSketch: ("word", "at"),
        errors.InvalidText: ("line", "field"),
    },
}


class Errors(unittest.TestCase):
    def test_families(self):
        self.assertEqual(errors.HangError.__bases__, (ValueError,))
        for family, kinds in FAMILIES.items():
            self.assertEqual(family.__bases__, (errors.HangError,))
            for kind in kinds:
                self.assertEqual(kind.__bases__, (family,))

    def test_fields_are_the_very_objects(self):
        for kinds in FAMILIES.values():
            for kind, fields in kinds.items():
                values = [[field, object()] for field in fields]
                for error in (kind(*values), kind(**dict(zip(fields, values)))):
                    self.assertEqual(tuple(vars(error)), fields)
                    for field, value in zip(fields, values):
                        self.assertIs(getattr(error, field), value)

    def test_exactly_these_fields(self):
        for kinds in FAMILIES.values():
            for kind, fields in kinds.items():
                for count in range(4):
                    if count != len(fields):
                        with self.assertRaises(TypeError):
                            kind(*range(count))

    def test_any_values(self):
        for value in (None, True, (), [], {}, "x", 10 ** 70):
            with self.assertRaises(errors.HangError) as caught:
                raise errors.NotUsable(value, at=value)
            self.assertIs(caught.exception.word, value)
            self.assertIs(caught.exception.at, value)


if __name__ == "__main__":
    unittest.main()
