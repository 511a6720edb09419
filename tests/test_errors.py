"""Section readsfrom/errors.py of the interface."""

import unittest

from readsfrom import errors

# Name, the class of Python's own straight above it, fields in order.
REFUSALS = [
    ("NoProgram", ValueError, ["part", "hand", "number"]),
    ("NoText", ValueError, ["row"]),
    ("NoGraph", ValueError, ["rule"]),
    ("NoNames", ValueError, ["which"]),
    ("NoPicks", ValueError, []),
    ("NoRow", ValueError, []),
    ("NoHand", IndexError, ["hand"]),
    ("NoNumber", IndexError, ["number"]),
    ("NoRun", IndexError, ["number"]),
    ("NoStep", LookupError, ["hand"]),
    ("NoName", LookupError, ["name"]),
    ("TooMany", OverflowError, ["many"]),
    ("Bare", RuntimeError, []),
]


class RefusalsTest(unittest.TestCase):
    def test_there_are_thirteen(self):
        found = [name for name, thing in vars(errors).items() if isinstance(thing, type)]
        self.assertEqual(sorted(found), sorted(name for name, _, _ in REFUSALS))
        self.assertEqual(len(found), 13)

    def test_each_is_straight_under_the_class_named(self):
        for name, above, _ in REFUSALS:
            with self.subTest(name):
                refusal = getattr(errors, name)
                self.assertEqual(refusal.__bases__, (above,))
                self.assertEqual(refusal.__module__, "readsfrom.errors")

    def test_none_is_under_another_one(self):
        kinds = [getattr(errors, name) for name, _, _ in REFUSALS]
        for one in kinds:
            for other in kinds:
                self.assertEqual(issubclass(one, other), one is other)

    def test_each_has_its_values_as_fields(self):
        for name, _, fields in REFUSALS:
            with self.subTest(name):
                values = [object() for _ in fields]
                made = getattr(errors, name)(*values)
                self.assertEqual(list(vars(made)), fields)
                for field, value in zip(fields, values):
                    self.assertIs(getattr(made, field), value)

    def test_each_is_made_by_names_too(self):
        for name, _, fields in REFUSALS:
            with self.subTest(name):
                made = getattr(errors, name)(**{field: number for number, field in enumerate(fields)})
                self.assertEqual([getattr(made, field) for field in fields], list(range(len(fields))))

    def test_none_is_made_of_more_or_fewer_values(self):
        for name, _, fields in REFUSALS:
            with self.subTest(name):
                refusal = getattr(errors, name)
                with self.assertRaises(TypeError):
                    refusal(*[None for _ in fields], None)
                if fields:
                    with self.assertRaises(TypeError):
                        refusal(*[None for _ in fields[1:]])

    def test_each_is_raised_and_caught_by_the_class_above(self):
        for name, above, fields in REFUSALS:
            with self.subTest(name):
                with self.assertRaises(above):
                    raise getattr(errors, name)(*[None for _ in fields])


if __name__ == "__main__":
    unittest.main()
