"""Point 9 and the interface of errors.py: families, fields, the very objects."""

import unittest

from chosenlast import errors
from tests.values import ANY_VALUES

FIELDS = {
    "InvalidPaper": ("PaperError", ("word", "at")),
    "UnknownName": ("TableError", ("name",)),
    "UnknownPair": ("TableError", ("pair",)),
    "InvalidStep": ("StepError", ("step", "reason")),
    "NothingToUndo": ("StepError", ("steps",)),
    "InvalidText": ("TextError", ("line", "field")),
    "InvalidRow": ("TextError", ("row",)),
}
FAMILIES = ("PaperError", "TableError", "StepError", "TextError")


class Silent:
    """A value that cannot be inspected."""

    def refuse(self, *_):
        raise AssertionError("inspected")

    __eq__ = __hash__ = __str__ = __repr__ = __len__ = __bool__ = __iter__ = refuse


class ErrorTests(unittest.TestCase):

    def test_families(self):
        self.assertEqual(errors.ChosenError.__bases__, (ValueError,))
        for family in FAMILIES:
            self.assertEqual(getattr(errors, family).__bases__, (errors.ChosenError,))
        for name, (family, _) in FIELDS.items():
            self.assertEqual(getattr(errors, name).__bases__, (getattr(errors, family),))

    def test_errors_of_one_family_are_not_of_another(self):
        for name, (family, fields) in FIELDS.items():
            error = getattr(errors, name)(*fields)
            self.assertIsInstance(error, errors.ChosenError)
            for other in FAMILIES:
                self.assertEqual(isinstance(error, getattr(errors, other)), other == family)

    def test_very_objects_are_kept(self):
        things = [*ANY_VALUES, Silent(), object(), 0.5, {}]
        for name, (_, fields) in FIELDS.items():
            for k, thing in enumerate(things):
                given = [things[(k + n) % len(things)] for n in range(len(fields))]
                by_position = getattr(errors, name)(*given)
                by_name = getattr(errors, name)(**dict(zip(fields, given)))
                for field, value in zip(fields, given):
                    self.assertIs(getattr(by_position, field), value)
                    self.assertIs(getattr(by_name, field), value)

    def test_very_objects_are_kept_after_raising(self):
        row = [["kept"]]
        with self.assertRaises(errors.ChosenError) as caught:
            raise errors.InvalidRow(row)
        self.assertIs(caught.exception.row, row)
        with self.assertRaises(errors.StepError) as caught:
            raise errors.InvalidStep(reason=row, step=None)
        self.assertIs(caught.exception.reason, row)
        self.assertIsNone(caught.exception.step)

    def test_exactly_the_fields(self):
        for name, (_, fields) in FIELDS.items():
            made = getattr(errors, name)
            with self.assertRaises(TypeError):
                made(*fields[1:])
            with self.assertRaises(TypeError):
                made(*fields, "more")
            with self.assertRaises(TypeError):
                made(*fields, more=0)
            self.assertEqual(sorted(vars(made(*fields))), sorted(fields))


if __name__ == "__main__":
    unittest.main()
