"""Pieces and codes that are walked on books: [25]."""

import unittest

from pieceasks.books import Book
from pieceasks.codes import compiled
from pieceasks.errors import InvalidBook
from pieceasks.pieces import Piece


class WalkTest(unittest.TestCase):
    def walk(self, text, book):
        """What a piece does on a book, and its code too."""
        piece = Piece.read(text)
        told = piece(Book.read(book))
        self.assertEqual(compiled(piece)(Book.read(book)), told)
        return told

    def fails(self, word, at, text, book):
        piece = Piece.read(text)
        for walker in (piece, compiled(piece)):
            with self.assertRaises(InvalidBook) as caught:
                walker(Book.read(book))
            self.assertEqual((caught.exception.word, caught.exception.at), (word, at), (text, book))

    def test_example(self):
        self.assertEqual(self.walk("params x y\nx += y\nreturn x", "begin 0 1\niadd:0 tells 2"),
                         ((((("add", 0, 1)), ("tells", 2)),), ("returns", 2, ())))

    def test_ahead_of_the_end(self):
        text = "params x y\nx += y\nreturn -x"
        self.assertEqual(self.walk(text, "begin 0 1"), ((), ("asks", ("iadd", 0, 1))))
        self.assertEqual(self.walk(text, "begin 0 1\niadd:0"), ((), ("asks", ("add", 0, 1))))
        self.assertEqual(self.walk(text, "begin 0 0\nadd:0 iadd:0"), ((), ("raises", "TypeError", ())))
        self.assertEqual(self.walk(text, "begin 0 1\ntells 2"), (((("iadd", 0, 1), ("tells", 2)),), ("asks", ("neg", 2))))
        self.assertEqual(self.walk(text, "begin 0 1\ntells 2\nneg:0 neg:1"), (((("iadd", 0, 1), ("tells", 2)),), ("asks", ("neg", 2))))

    def test_at_the_end(self):
        text = "params x y\nx += y\nreturn -x"
        calls = ((("iadd", 0, 1), ("declines",)), (("add", 0, 1), ("tells", 0)), (("neg", 0), ("tells", 2)))
        book = "begin 0 1\ndeclines\ntells 0\ntells 2"
        self.assertEqual(self.walk(text, book), (calls, ("returns", 2, ())))
        self.assertEqual(self.walk(text, "begin 0 1\ntells 2\nneg:2"), (((("iadd", 0, 1), ("tells", 2)),), ("raises", "TypeError", ())))
        self.assertEqual(self.walk(text, "begin 0 1\nraises 2"), (((("iadd", 0, 1), ("raises", 2)),), ("raises", 2, ())))
        self.assertEqual(self.walk("params\npass", "begin"), ((), ("returns", "None", ())))
        self.assertEqual(self.walk("params x\nkept x\npass", "begin unset"), ((), ("falls", "None", ("unset",))))
        self.assertEqual(self.walk("params\nwhile True:\n pass", "begin"), ((), ("endless",)))

    def test_behind_the_end(self):
        """The rest of the book is left, whatever it has."""
        text = "params x\nreturn -x"
        for rest in ("", "\nstop", "\nyes\nno\ndone", "\nneg:0 raises 0\nneg:0 declines\nempty", "\ndeclines\nadd:0 neg:0", "\nneg:0"):
            self.assertEqual(self.walk(text, f"begin 0\ntells 1{rest}"), (((("neg", 0), ("tells", 1)),), ("returns", 1, ())))
            self.assertEqual(self.walk(text, f"begin 0\nneg:0 stop{rest}"), ((), ("raises", "TypeError", ())))
        self.assertEqual(self.walk("params x\nwhile True:\n pass", "begin 0\nyes"), ((), ("endless",)))

    def test_begins(self):
        for at, text, begin in ((0, "params x y\npass", ""), (1, "params x y\npass", " 0"), (2, "params x y\npass", " 0 1 2"), (0, "params\npass", " 0"),
                                (0, "params x y\npass", " unset 0"), (1, "params x y\npass", " 0 None"), (1, "params x y\npass", " 0 TypeError 1"),
                                (1, "params x y\nkept x\npass", " unset"), (2, "params x y\nkept x\npass", " unset None True"), (0, "params x\npass", " True")):
            self.fails("begin", at, text, f"begin{begin}")
            self.fails("begin", at, text, f"begin{begin}\nstop\nno")
        self.assertEqual(self.walk("params x y\nkept y x\nx", "begin unset None"), ((), ("raises", "NameError", ("None", "unset"))))
        self.assertEqual(self.walk("params x y\nkept y x\nreturn y", "begin ValueError 0"), ((), ("returns", 0, (0, "ValueError"))))

    def test_answers_that_do_not_suit(self):
        for at, text, book in (
            (0, "params x\nreturn -x", "begin 0\ndeclines"), (0, "params x\nreturn -x", "begin 0\nstop"), (0, "params x\nreturn -x", "begin 0\ntells True"),
            (0, "params x\nnot x", "begin 0\ntells 0"), (0, "params x\nnot x", "begin 0\nempty"), (0, "params x\nnot x", "begin 0\nbool:0 yes"),
            (1, "params x\nx = -x\nreturn -x", "begin 0\ntells 1\nno"), (1, "params x\nx + x\nx += x", "begin 0\ntells 1\nyes\nstop"),
            (2, "params x\nfor x in x:\n pass", "begin 0\ntells 1\ntells 0\ndone"), (0, "params x\ndel x[x]", "begin 0\ntells 0"),
            (0, "params x\nx.w = x", "begin 0\ntells 0"), (0, "params x\nx == x", "begin 0\nno"),
            (1, "params x\nx in x\nreturn -x", "begin 0\ntells True\ntells False"),
        ):
            self.fails("answer", at, text, book)
        # The begin is looked at first.
        self.fails("begin", 1, "params x\nnot x", "begin 0 0\ntells 0")

    def test_other_arguments(self):
        piece = Piece.read("params x\nreturn -x")
        self.assertEqual(piece(book=Book((0,))), ((), ("asks", ("neg", 0))))
        self.assertEqual(compiled(piece)(book=Book((0,))), ((), ("asks", ("neg", 0))))


if __name__ == "__main__":
    unittest.main()
