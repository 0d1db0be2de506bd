"""Point 2 and the interface: the error classes, their fields and their bases."""

import unittest

from elderways import errors

# name, builtin base, names of the fields
LISTED = [
    ("ShapeMismatch", ValueError, ()),
    ("InvalidText", ValueError, ("line",)),
    ("InvalidCommand", ValueError, ("line",)),
    ("NotOlder", ValueError, ("older",)),
    ("NotLoop", ValueError, ("older",)),
    ("UnknownPassage", LookupError, ("index",)),
    ("BrokenWalk", LookupError, ("step",)),
    ("UnknownNumber", LookupError, ("number",)),
    ("InvalidIndex", LookupError, ("index",)),
    ("UnknownRevision", LookupError, ("revision",)),
    ("WrongRoom", RuntimeError, ("room",)),
    ("PositionUnreachable", RuntimeError, ("index",)),
    ("TargetUnreachable", RuntimeError, ("index",)),
    ("NoMatch", RuntimeError, ("index",)),
    ("PassageFixed", RuntimeError, ("index",)),
    ("PassageNotFixed", RuntimeError, ("index",)),
    ("TooMany", OverflowError, ("count",)),
    ("EditorFull", OverflowError, ("count",)),
]
VALUES = [0, 7, -1, 10 ** 12, -(10 ** 12)]


class ErrorsTest(unittest.TestCase):
    def for_each(self, check):
        """Call check(class, base, fields) for every listed error."""
        for name, base, fields in LISTED:
            with self.subTest(name=name):
                check(getattr(errors, name), base, fields)

    def test_there_are_eighteen(self):
        defined = [
            name
            for name, kind in vars(errors).items()
            if isinstance(kind, type) and issubclass(kind, Exception)
        ]
        self.assertEqual(len(LISTED), 18)
        self.assertEqual(sorted(defined), sorted(name for name, _, _ in LISTED))

    def test_each_has_its_own_name_and_file(self):
        for name, _, _ in LISTED:
            with self.subTest(name=name):
                kind = getattr(errors, name)
                self.assertEqual(kind.__name__, name)
                self.assertEqual(kind.__module__, "elderways.errors")

    def test_only_base_is_the_builtin(self):
        def check(kind, base, fields):
            self.assertEqual(kind.__bases__, (base,))

        self.for_each(check)

    def test_none_is_below_another(self):
        kinds = [getattr(errors, name) for name, _, _ in LISTED]

        def check(kind, base, fields):
            self.assertEqual([other for other in kinds if issubclass(kind, other)], [kind])

        self.for_each(check)

    def test_created_by_position(self):
        def check(kind, base, fields):
            for value in VALUES:
                error = kind(*[value for _ in fields])
                self.assertEqual(vars(error), {field: value for field in fields})

        self.for_each(check)

    def test_created_by_name(self):
        def check(kind, base, fields):
            for value in VALUES:
                error = kind(**{field: value for field in fields})
                self.assertEqual(vars(error), {field: value for field in fields})

        self.for_each(check)

    def test_two_errors_do_not_share_a_field(self):
        def check(kind, base, fields):
            for field in fields:
                first, second = kind(1), kind(2)
                self.assertEqual((getattr(first, field), getattr(second, field)), (1, 2))

        self.for_each(check)

    def test_wrong_fields_are_refused(self):
        def check(kind, base, fields):
            if fields:
                self.assertRaises(TypeError, kind)
            self.assertRaises(TypeError, kind, another=0)
            self.assertRaises(TypeError, kind, *[0 for _ in fields], another=0)

        self.for_each(check)

    def test_caught_by_its_class(self):
        def check(kind, base, fields):
            with self.assertRaises(kind) as caught:
                raise kind(*[5 for _ in fields])
            self.assertIs(type(caught.exception), kind)
            self.assertEqual(vars(caught.exception), {field: 5 for field in fields})

        self.for_each(check)

    def test_caught_by_the_builtin(self):
        def check(kind, base, fields):
            with self.assertRaises(base) as caught:
                raise kind(*[5 for _ in fields])
            self.assertIs(type(caught.exception), kind)

        self.for_each(check)

    def test_not_caught_by_another_builtin(self):
        bases = (ValueError, LookupError, RuntimeError, OverflowError)

        def check(kind, base, fields):
            error = kind(*[5 for _ in fields])
            self.assertEqual([other for other in bases if isinstance(error, other)], [base])

        self.for_each(check)


if __name__ == "__main__":
    unittest.main()
