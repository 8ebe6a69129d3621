"""What was worked out for a piece is kept: it is translated and searched once, however often it is asked."""

import unittest
from unittest import mock

from pieceasks.books import Book
from pieceasks.codes import Code, compiled
from pieceasks.comparing import compare, is_alike
from pieceasks.pieces import Piece
from pieceasks.promises import Promises
from pieceasks.runs import Run
from pieceasks.search import Search

TEXT = ("params x y\nwhile x < y:\n x += y\n for y in x:\n  if y == x:\n   break\n  x[y] = x * y\n  y.w -= x\n"
        "try:\n x.w = -y\nexcept as z:\n with z as x:\n  del x[y]\nreturn x < y <= z")


class Counted:
    """Counts the calls of a function while it stands in the place of one."""

    def __init__(self, place, name, method=False):
        self.count = 0
        self.place = place if method else __import__(place, fromlist=["x"])
        self.name = name
        self.call = getattr(self.place, name)

    def __enter__(self):
        def counted(*args, **more):
            self.count += 1
            return self.call(*args, **more)
        self.patch = mock.patch.object(self.place, self.name, counted)
        self.patch.start()
        return self

    def __exit__(self, *told):
        self.patch.stop()


class TranslatedOnceTest(unittest.TestCase):
    def test_walks_runs_and_codes(self):
        piece, book = Piece.read(TEXT), Book.read("begin 0 1\ntells 2\nyes\nlen:2 lt:2")
        with Counted("pieceasks.pieces", "translated") as translated, Counted("pieceasks.codes", "wrong_row") as checked:
            first = piece(book), Run(piece, (0, 1)).ask(), compiled(piece), compiled(piece)(book)
            for _ in range(5):
                self.assertEqual((piece(book), Run(piece, (0, 1)).ask(), compiled(piece), compiled(piece)(book)), first)
        self.assertEqual((translated.count, checked.count), (1, 1))

    def test_equal_answers(self):
        """A piece that was asked before tells the same as one that was not."""
        piece = Piece.read(TEXT)
        for text in ("begin 0 1", "begin 0 0", "begin 0 1\nlt:0", "begin 0 1\ntells False", "begin 0 1\ntells True\nraises 2\ntells 3", "begin 0 1\ntells True"):
            book = Book.read(text)
            self.assertEqual(piece(book), Piece.read(TEXT)(book))
            self.assertEqual(compiled(piece)(book), piece(book))
        self.assertEqual(compiled(piece), compiled(Piece.read(TEXT)))
        run, other = Run(piece, (0, 1)), Run(piece, (0, 0))
        run.tell(("tells", 2))
        self.assertEqual((other.calls, other.held, run.held), ((), {"x": 0, "y": 0}, {"x": 0, "y": 1}))
        held = run.held
        held["x"] = 7
        self.assertEqual((run.held, Run(piece, (0, 1)).held), ({"x": 0, "y": 1}, {"x": 0, "y": 1}))

    def test_codes(self):
        code = compiled(Piece.read(TEXT))
        again = Code(code.params, code.rows, code.kept)
        with Counted("pieceasks.codes", "Machine") as machines:
            for _ in range(4):
                again(Book.read("begin 0 1"))
                Run(again, (0, 1))
        self.assertEqual(machines.count, 1)


class SearchedOnceTest(unittest.TestCase):
    ONE = "params x y\nwhile x < y:\n x += y\n for y in x:\n  if y == x:\n   break\nreturn x"
    OTHER = "params x y\nwhile x < y:\n x = x + y\n for y in x:\n  if x == y:\n   break\nreturn x"

    def test_again(self):
        one, other = Piece.read(self.ONE), Piece.read(self.OTHER)
        with Counted(Search, "parting", True) as searched, Counted("pieceasks.pieces", "translated") as translated:
            book = compare(one, other)
            self.assertEqual([compare(one, other), compare(other, one), compare(one, Piece.read(self.OTHER))], [book] * 3)
            self.assertEqual(searched.count, 1)
            self.assertFalse(is_alike(other, one, ()))
            self.assertEqual(searched.count, 1)
            # The book keeps these promises, too, so no shorter one is looked for.
            self.assertEqual(compare(one, other, (("calm", "lt"), ("has", "lt"))), book)
            self.assertEqual(compare(one, other, Promises.read("calm lt, has lt")), book)
            self.assertEqual((searched.count, translated.count), (1, 2))
            vows = Promises.read("bare iadd, has bool")
            third = compare(one, other, vows)
            self.assertEqual([compare(other, one, vows), compare(one, other, [("has", "bool"), ("bare", "iadd")])], [third] * 2)
            self.assertEqual((searched.count, translated.count), (2, 2))
        self.assertEqual((len(book), len(third)), (1, 4))
        self.assertTrue(all(vows.kept_by(piece, third) for piece in (one, other)))

    def test_alike(self):
        one, other = Piece.read("params x y\nx += y\nreturn x"), Piece.read("params x y\nx += y\nz = x\nreturn z")
        with Counted(Search, "parting", True) as searched:
            for vows in ((), (("calm", "add"),), (("bare", "iadd"), ("has", "add"))):
                self.assertIsNone(compare(one, other, vows))
                self.assertIsNone(compare(other, one, vows))
            self.assertEqual(searched.count, 1)

    def test_each_pair_and_promise_for_itself(self):
        texts = ("x += y\nreturn x", "x = x + y\nreturn x", "return x + y", "return y + x", "x + y\nreturn x")
        pieces = [Piece.read("params x y\n" + text) for text in texts]
        sets = ((), (("bare", "iadd"),), (("bare", "iadd"), ("itself", "add"), ("bare", "radd"), ("calm", "add"), ("takes", "add")))
        for _ in range(2):
            for vows in sets:
                for one, text in zip(pieces, texts):
                    for other, there in zip(pieces, texts):
                        fresh = compare(Piece.read("params x y\n" + text), Piece.read("params x y\n" + there), vows)
                        told = compare(one, other, vows)
                        self.assertEqual(told is None, fresh is None, (text, there, vows))
                        if told is not None:
                            self.assertEqual(len(told), len(fresh), (text, there, vows))
                            self.assertTrue(all(Promises(vows).kept_by(piece, told) for piece in (one, other)))

    def test_many_others(self):
        """However many pieces one is compared with, each answer is right."""
        one = Piece.read("params x\nreturn x")
        names = [first + last for first in "abcdefghijklmnopq" for last in "abcdefghijklmnopqrs" if first + last not in ("as", "if", "in", "is", "or")]
        for name in names:
            self.assertIsNone(compare(one, Piece.read(f"params {name}\nreturn {name}")))
            self.assertEqual(len(compare(one, Piece.read(f"params {name}\nreturn None"))), 0)
        self.assertIsNone(compare(one, Piece.read("params aa\nreturn aa")))


if __name__ == "__main__":
    unittest.main()
