"""The errors: their fields, and where each stands."""

import unittest

from curveboxes import errors
from tests.values import OWN, STRANGE

FIELDS = {
    "BadInput": {
        "BadCurve": ("part",), "BadLevel": ("value",), "BadPlace": ("value",), "BadKey": ("value",),
        "BadBox": ("part",), "BadSpans": ("part",), "BadMany": ("value",), "BadRule": ("part",),
        "BadStore": ("part",), "BadRow": ("value",), "BadBook": ("part",), "BadText": ("line", "word"),
        "BadLine": ("word",),
    },
    "Refused": {"Endless": ("level", "key"), "Unlike": ("part",), "Outside": ("place",), "TooMany": ("what", "most")},
    "NoAnswer": {"NoRow": ("place",), "NoDeed": ()},
}
ALL = [(base, name, fields) for base, below in FIELDS.items() for name, fields in below.items()]


class Errors(unittest.TestCase):
    def test_where_each_stands(self):
        self.assertEqual(errors.CurveError.__bases__, (ValueError,))
        for base in FIELDS:
            self.assertEqual(getattr(errors, base).__bases__, (errors.CurveError,))
        for base, name, _ in ALL:
            self.assertEqual(getattr(errors, name).__bases__, (getattr(errors, base),))

    def test_there_are_no_others(self):
        found = {name for name, value in vars(errors).items() if isinstance(value, type)}
        self.assertEqual(found, {"CurveError", *FIELDS, *[name for _, name, _ in ALL]})

    def test_fields_by_position_and_by_name(self):
        values = [*STRANGE, *OWN, 5, -1]
        for _, name, fields in ALL:
            made = getattr(errors, name)
            for at, value in enumerate(values):
                given = (value, values[at - 1])[:len(fields)]
                for error in (made(*given), made(**dict(zip(fields, given)))):
                    self.assertEqual(len(vars(error)), len(fields))
                    for field, part in zip(fields, given):
                        self.assertIs(getattr(error, field), part)

    def test_mixed_and_reordered_names(self):
        error = errors.BadText(4, word=2)
        self.assertEqual((error.line, error.word), (4, 2))
        error = errors.Endless(key=7, level=2)
        self.assertEqual((error.level, error.key), (2, 7))
        error = errors.TooMany(most=16, what="cells")
        self.assertEqual((error.what, error.most), ("cells", 16))

    def test_wrong_numbers_of_fields(self):
        for _, name, fields in ALL:
            if fields:
                with self.assertRaises(TypeError):
                    getattr(errors, name)()
                with self.assertRaises(TypeError):
                    getattr(errors, name)(*range(len(fields) + 1))

    def test_caught_by_the_bases(self):
        for base, name, fields in ALL:
            for caught in (ValueError, errors.CurveError, getattr(errors, base)):
                with self.assertRaises(caught):
                    raise getattr(errors, name)(*fields)


if __name__ == "__main__":
    unittest.main()
