import unittest

from toolroad import errors
from telling import Telling

# Each class with the one that it stands straight under, and the names of its values.
CLASSES = {
    "MillError": (ValueError, ()),
    "NoHeading": (errors.MillError, ()),
    "NoText": (errors.MillError, ("at",)),
    "Uneven": (errors.MillError, ("row",)),
    "NoFrame": (errors.MillError, ("row",)),
    "TooDeep": (errors.MillError, ("row",)),
    "TooMany": (errors.MillError, ("most",)),
    "NoState": (errors.MillError, ()),
    "Unled": (errors.MillError, ("number",)),
    "Gouge": (errors.MillError, ("number",)),
    "Unmet": (errors.MillError, ("number",)),
    "NoWindow": (errors.MillError, ()),
    "NoEntry": (errors.MillError, ()),
    "Closed": (errors.MillError, ()),
    "Away": (errors.MillError, ()),
    "Lifted": (errors.MillError, ()),
    "OverNought": (ZeroDivisionError, ()),
    "NoPiece": (KeyError, ("name",)),
    "NoStep": (IndexError, ("number", "many")),
}
VALUES = {"at": 0, "row": 7, "most": 80, "number": -3, "many": 12, "name": "tooth"}


def refuse(kind, *values):
    raise kind(*values)


class ErrorsTest(Telling):
    def kinds(self):
        return [(word, getattr(errors, word), *told) for word, told in CLASSES.items()]

    def test_each_stands_straight_under_its_class(self):
        for word, kind, base, _ in self.kinds():
            with self.subTest(word):
                self.assertEqual(kind.__bases__, (base,))
                self.assertEqual(kind.__name__, word)

    def test_none_stands_under_another_one(self):
        for word, kind, _, _ in self.kinds():
            for other_word, other, _, _ in self.kinds():
                if other_word not in (word, "MillError"):
                    with self.subTest(word=word, other=other_word):
                        self.assertFalse(issubclass(kind, other))

    def test_three_stand_apart_from_mill_error(self):
        for kind in (errors.OverNought, errors.NoPiece, errors.NoStep):
            with self.subTest(kind.__name__):
                self.assertFalse(issubclass(kind, errors.MillError))
                self.assertFalse(issubclass(kind, ValueError))

    def test_values_by_their_places(self):
        for word, kind, _, names in self.kinds():
            with self.subTest(word):
                made = kind(*[VALUES[name] for name in names])
                for name in names:
                    self.told(getattr(made, name), VALUES[name])

    def test_values_of_two_errors_are_their_own(self):
        for word, kind, _, names in self.kinds():
            with self.subTest(word):
                made = kind(*[VALUES[name] for name in names])
                kind(*[1000 for _ in names])
                for name in names:
                    self.told(getattr(made, name), VALUES[name])

    def test_values_are_asked_for(self):
        for word, kind, _, names in self.kinds():
            if names:
                with self.subTest(word):
                    self.assertRaises(TypeError, kind)
                    self.assertRaises(TypeError, kind, *[1 for _ in names], 1)

    def test_each_is_raised_and_caught_under_its_class(self):
        for word, kind, base, names in self.kinds():
            with self.subTest(word):
                with self.assertRaises(base) as caught:
                    refuse(kind, *[VALUES[name] for name in names])
                self.assertIs(caught.exception.__class__, kind)
                for name in names:
                    self.told(getattr(caught.exception, name), VALUES[name])


if __name__ == "__main__":
    unittest.main()
