"""Shelves: [42]."""

import unittest

from pieceasks.books import Book
from pieceasks.comparing import compare, parts_on
from pieceasks.errors import InvalidPiece, InvalidPromise, InvalidText, OtherShape, UnknownName
from pieceasks.pieces import Piece
from pieceasks.promises import Promises
from pieceasks.shelves import Shelf

TEXTS = {"f": "params x y\nx += y\nreturn x", "g": "params x y\nx = x + y\nreturn x", "h": "params a b\nreturn a + b", "one": "params x\npass",
         "part": "params x y\nkept x\nx += y", "two": "params x y\nkept x\nx = x + y", "three": "params x y\nkept x y\nx = x + y", "under": "params\npass"}
BARE = (("bare", "iadd"),)


class ShelfTest(unittest.TestCase):
    def setUp(self):
        self.shelf = Shelf()
        for name in ("two", "g", "part", "h", "one", "f", "under", "three"):
            self.shelf[name] = TEXTS[name]

    def fails(self, error, call, **attributes):
        """The call fails, and nothing changes."""
        before = list(self.shelf), len(self.shelf), self.shelf.count, [str(self.shelf[name]) for name in self.shelf]
        with self.assertRaises(error) as caught:
            call()
        self.assertEqual({name: getattr(caught.exception, name) for name in attributes}, attributes)
        self.assertEqual((list(self.shelf), len(self.shelf), self.shelf.count, [str(self.shelf[name]) for name in self.shelf]), before)

    def put(self, name, text):
        self.shelf[name] = text

    def test_items(self):
        self.assertEqual((list(self.shelf), len(self.shelf)), (sorted(TEXTS), 8))
        for name, text in TEXTS.items():
            self.assertIs(type(self.shelf[name]), Piece)
            self.assertEqual(self.shelf[name], Piece.read(text))
            self.assertIs(name in self.shelf, True)
        for name in ("x", "", "as", "F", "f ", "longname", "x\ny", "params"):
            self.assertIs(name in self.shelf, False)
            self.fails(UnknownName, lambda: self.shelf[name], name=name)
            self.fails(UnknownName, lambda: self.shelf.drop(name=name), name=name)
            self.fails(KeyError, lambda: self.shelf[name])
        self.shelf["f"] = "params\npass"
        self.assertEqual((str(self.shelf["f"]), len(self.shelf)), ("params\npass", 8))
        self.assertEqual((list(Shelf()), len(Shelf()), Shelf().count), ([], 0, 0))

    def test_texts_that_are_refused(self):
        for name in ("", "as", "F", "f1", "toolong", "a b", " f", "not", "in", "kept", "a.b", "f\n"):
            for text in ("params\npass", "", "params\nbreak"):
                self.fails(UnknownName, lambda: self.put(name, text), name=name)
        for text, line in (("", 0), ("params", 1), ("params x y\nx =", 1), ("params\nif x:\nx", 2), ("params\npass\n", 2), ("pass", 0), ("params\n x", 1)):
            self.fails(InvalidText, lambda: self.put("f", text), line=line)
            self.fails(InvalidText, lambda: self.put("new", text), line=line)
        for text, word, at in (("params x x\npass", "param", 1), ("params\nkept y y\npass", "kept", 1), ("params\nbreak", "loose", 0)):
            self.fails(InvalidPiece, lambda: self.put("f", text), word=word, at=at)
        self.assertNotIn("new", self.shelf)
        self.assertEqual(str(self.shelf["f"]), TEXTS["f"])

    def test_dropping(self):
        self.assertIsNone(self.shelf.drop("g"))
        self.assertEqual((list(self.shelf), len(self.shelf), "g" in self.shelf), ([name for name in sorted(TEXTS) if name != "g"], 7, False))
        self.fails(UnknownName, lambda: self.shelf.drop("g"), name="g")
        self.fails(UnknownName, lambda: self.shelf["g"], name="g")
        self.shelf["g"] = "params\npass"
        self.assertEqual(str(self.shelf["g"]), "params\npass")
        for name in self.shelf:
            self.shelf.drop(name)
        self.assertEqual((list(self.shelf), len(self.shelf)), ([], 0))

    def test_comparing(self):
        for one in TEXTS:
            for other in TEXTS:
                for promises in ((), BARE, Promises.read("bare iadd, calm add"), [("has", "iadd")]):
                    if self.shelf[one].shape != self.shelf[other].shape:
                        self.fails(OtherShape, lambda: self.shelf.compare(one, other, promises))
                        continue
                    told = self.shelf.compare(one, other, promises)
                    least = compare(self.shelf[one], self.shelf[other], promises)
                    self.assertEqual(told is None, least is None)
                    if told is not None:
                        self.assertIs(type(told), Book)
                        self.assertEqual(len(told), len(least))
                        self.assertTrue(parts_on(self.shelf[one], self.shelf[other], told))
        self.assertIsNone(self.shelf.compare(promises=list(BARE), other="g", one="f"))
        self.assertEqual(len(self.shelf.compare("f", "g")), 0)

    def test_counting(self):
        def count(*given):
            self.shelf.compare(*given)
            return self.shelf.count

        self.assertEqual(self.shelf.count, 0)
        self.assertEqual([count("f", "g"), count("f", "g"), count("f", "g", ()), count("f", "g", []), count("f", "g", Promises())], [1] * 5)
        # Turned about it is something else, and so it is under promises.
        self.assertEqual([count("g", "f"), count("g", "f"), count("f", "f"), count("f", "f")], [2, 2, 3, 3])
        self.assertEqual([count("f", "g", BARE), count("f", "g", list(BARE)), count("f", "g", Promises(BARE)), count("f", "g", BARE + BARE)], [4] * 4)
        both = (("calm", "add"), ("bare", "iadd"))
        self.assertEqual([count("f", "g", both), count("f", "g", both[::-1]), count("f", "g", Promises(both)), count("f", "g", both + BARE)], [5] * 4)
        # Equal texts under other names, and kept anew.
        self.shelf["ff"], self.shelf["gg"] = TEXTS["f"], TEXTS["g"]
        self.assertEqual([count("ff", "gg"), count("ff", "g", BARE), count("gg", "f"), count("ff", "f")], [5] * 4)
        self.shelf["f"] = TEXTS["h"]
        self.assertEqual([count("ff", "g"), count("f", "g"), count("f", "gg"), count("h", "g")], [5, 6, 6, 6])
        self.shelf["f"] = TEXTS["f"]
        self.shelf.drop("ff")
        self.assertEqual([count("f", "g"), count("f", "g", both)], [6, 6])
        # Pieces that differ in names alone are not equal.
        self.shelf["h"] = "params a b\na += b\nreturn a"
        self.assertEqual([count("h", "g"), count("h", "f")], [7, 8])
        # Parts and whole pieces are not equal either, nor are books that were told shared with another shelf.
        self.assertEqual([count("part", "two"), count("two", "part"), count("part", "two", BARE)], [9, 10, 11])
        self.assertEqual(Shelf().count, 0)

    def test_counting_and_errors(self):
        wrong = (("bare", "x"),)
        for names in (("no", "f"), ("f", "no"), ("no", "nope"), ("no", "one"), ("as", "f")):
            missing = [name for name in names if name not in self.shelf][0]
            self.fails(UnknownName, lambda: self.shelf.compare(*names), name=missing)
            self.fails(UnknownName, lambda: self.shelf.compare(*names, wrong), name=missing)
        for names in (("f", "g"), ("f", "one"), ("part", "f")):
            self.fails(InvalidPromise, lambda: self.shelf.compare(*names, wrong), at=0)
            self.fails(InvalidPromise, lambda: self.shelf.compare(*names, [("bare", "add"), ("calm", "add")]), at=1)
        for names in (("f", "one"), ("f", "part"), ("part", "f"), ("part", "three"), ("under", "one")):
            self.fails(OtherShape, lambda: self.shelf.compare(*names))
        self.assertEqual(self.shelf.count, 0)

    def test_groups(self):
        self.assertEqual(self.shelf.groups(), (("f",), ("g", "h"), ("one",), ("part",), ("three",), ("two",), ("under",)))
        for promises in (BARE, list(BARE), Promises(BARE)):
            self.assertEqual(self.shelf.groups(promises=promises), (("f", "g", "h"), ("one",), ("part", "two"), ("three",), ("under",)))
        self.assertEqual(Shelf().groups(), ())
        self.shelf["a"] = TEXTS["one"]
        self.shelf["zz"] = "params y\ny"
        self.shelf["aa"] = TEXTS["f"]
        told = self.shelf.groups()
        self.assertEqual(told, (("a", "one", "zz"), ("aa", "f"), ("g", "h"), ("part",), ("three",), ("two",), ("under",)))
        self.assertTrue(all(type(group) is tuple for group in told))
        for wrong, at in (((("bare", "x"),), 0), ([("bare", "add"), ("has", "add")], 1)):
            self.fails(InvalidPromise, lambda: self.shelf.groups(wrong), at=at)
            with self.assertRaises(InvalidPromise):
                Shelf().groups(wrong)
        before = self.shelf.count
        self.assertEqual(self.shelf.groups(), told)
        self.shelf.compare("f", "g")
        self.assertIn(self.shelf.count - before, (0, 1))


if __name__ == "__main__":
    unittest.main()
