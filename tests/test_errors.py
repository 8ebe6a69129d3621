"""The errors: [4]."""

import unittest

from pieceasks import errors
from pieceasks.errors import AskError, UnknownName

# Each class with the names of its arguments.
CLASSES = {
    "InvalidPiece": ("word", "at"),
    "InvalidText": ("line",),
    "InvalidBook": ("word", "at"),
    "InvalidCode": ("word", "row"),
    "InvalidPromise": ("at",),
    "Unlike": ("book",),
    "Misfit": ("word",),
    "InvalidCommand": (),
    "NoPlace": ("at",),
    "OtherShape": (),
    "UnknownName": ("name",),
}
VALUES = ("form", 3, -1, None, True, "", (), [1, [2, ("x",)]], ("a", 1))


def class_of(name):
    return getattr(errors, name)


class ErrorTest(unittest.TestCase):
    def test_base(self):
        self.assertEqual(AskError.__bases__, (ValueError,))
        self.assertIsInstance(AskError(), ValueError)

    def test_bases(self):
        for name in CLASSES:
            base = KeyError if name == "UnknownName" else AskError
            self.assertEqual(class_of(name).__bases__, (base,), name)
            self.assertEqual(class_of(name).__module__, "pieceasks.errors")
        self.assertFalse(issubclass(UnknownName, AskError))
        self.assertFalse(issubclass(UnknownName, ValueError))

    def test_none_is_another(self):
        for name in CLASSES:
            for other in CLASSES:
                self.assertEqual(issubclass(class_of(name), class_of(other)), name == other)

    def test_arguments(self):
        for name, words in CLASSES.items():
            for value in VALUES:
                given = [value] + [[value]] * (len(words) - 1)
                given = given[:len(words)]
                for error in (class_of(name)(*given), class_of(name)(**dict(zip(words, given)))):
                    for word, part in zip(words, given):
                        self.assertIs(getattr(error, word), part)

    def test_missing_arguments(self):
        for name, words in CLASSES.items():
            if words:
                with self.assertRaises(TypeError):
                    class_of(name)(*[1] * (len(words) - 1))

    def test_caught_by_bases(self):
        for name, words in CLASSES.items():
            bases = (KeyError, LookupError) if name == "UnknownName" else (AskError, ValueError)
            for base in bases:
                with self.assertRaises(base) as caught:
                    raise class_of(name)(*range(len(words)))
                self.assertEqual([getattr(caught.exception, word) for word in words], list(range(len(words))))


if __name__ == "__main__":
    unittest.main()
