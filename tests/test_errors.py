import unittest

from anyfifth import errors
from tests.support import any_values

FIELDS = {
    "BadRatio": ("part",), "BadFifth": ("value",), "BadNumber": ("value",), "BadPiece": ("part",),
    "BadTruth": ("value",), "BadTone": ("part",), "BadTerm": ("part",), "BadSaying": ("part",),
    "BadRegion": ("value",), "BadScale": ("at",), "BadMove": ("at",), "BadRound": ("part",),
    "BadName": ("value",), "BadText": ("line", "word"), "BadCommand": ("word",),
    "NoDivisor": (), "NoName": ("name",), "Meets": ("one", "other", "at"), "TooMany": ("what", "most"),
    "Broken": ("name", "verdict"),
    "NoChange": (),
}
BASES = {name: "BadInput" if name.startswith("Bad") else "Refused" for name in FIELDS}
BASES["NoChange"] = "NoAnswer"


class Unlooked:
    """A value that fails when it is looked at."""

    def __eq__(self, other):
        raise AssertionError("compared")

    def __repr__(self):
        raise AssertionError("shown")

    def __bool__(self):
        raise AssertionError("tested")

    def __len__(self):
        raise AssertionError("measured")

    def __hash__(self):
        raise AssertionError("hashed")


class ErrorsTest(unittest.TestCase):
    def test_bases(self):
        self.assertIs(errors.FifthError.__base__, ValueError)
        for name in ("BadInput", "Refused", "NoAnswer"):
            self.assertEqual(getattr(errors, name).__bases__, (errors.FifthError,))
        for name, base in BASES.items():
            self.assertEqual(getattr(errors, name).__bases__, (getattr(errors, base),), name)

    def test_no_error_is_missing_or_more(self):
        made = {name for name, value in vars(errors).items() if isinstance(value, type)}
        self.assertEqual(made, set(FIELDS) | {"FifthError", "BadInput", "Refused", "NoAnswer"})

    def test_none_stands_below_another(self):
        for name in FIELDS:
            for other in FIELDS:
                below = issubclass(getattr(errors, name), getattr(errors, other))
                self.assertEqual(below, name == other, (name, other))

    def test_each_is_defined_in_its_file(self):
        for name in FIELDS:
            self.assertEqual(getattr(errors, name).__module__, "anyfifth.errors")

    def test_fields_by_position_and_by_name(self):
        values = any_values() + [Unlooked(), Unlooked()]
        for name, fields in FIELDS.items():
            for at in range(len(values)):
                given = [values[at - k] for k in range(len(fields))]
                named = dict(zip(fields, given))
                mixed = dict(zip(fields[1:], given[1:]))
                made = getattr(errors, name)
                for error in (made(*given), made(**named), made(*given[:1], **mixed)):
                    self.assertEqual(tuple(vars(error)), fields)
                    for field, value in named.items():
                        self.assertIs(getattr(error, field), value)

    def test_a_missing_field_or_a_wrong_name_is_no_error_of_the_package(self):
        for name, fields in FIELDS.items():
            if fields:
                with self.assertRaises(TypeError):
                    getattr(errors, name)(*fields[1:])
                with self.assertRaises(TypeError):
                    getattr(errors, name)(*fields[1:], told=1)

    def test_caught_by_each_base(self):
        for name, fields in FIELDS.items():
            for base in (name, BASES[name], "FifthError"):
                with self.assertRaises(getattr(errors, base)):
                    raise getattr(errors, name)(*fields)
            with self.assertRaises(ValueError):
                raise getattr(errors, name)(*fields)


if __name__ == "__main__":
    unittest.main()
