"""Codes: [26] to [28], and their runs."""

import random
import unittest

from helper import Walk, answers_to, random_piece
from pieceasks.books import METHODS, Book
from pieceasks.codes import Code, compiled
from pieceasks.errors import InvalidBook, InvalidCode
from pieceasks.pieces import Piece
from pieceasks.runs import Run

GOALS = {"two": ("raises", "tells"), "three": ("declines", "raises", "tells"), "next": ("raises", "stop", "tells"),
         "bool": ("no", "raises", "yes"), "len": ("empty", "raises", "some"), "done": ("done", "raises")}
WORDS = {method: GOALS["two"] for method in "neg iter enter contains getitem exit call getattr".split()}
WORDS.update({method: GOALS["three"] for method in "add sub mul radd rsub rmul iadd isub imul eq ne lt le gt ge".split()})
WORDS.update({method: GOALS["done"] for method in "delitem setitem delattr setattr".split()})
WORDS.update({word: GOALS[word] for word in ("next", "bool", "len")})
# What stands behind the thing of a method: each A an operand, W a word.
FORMS = {method: ("A",) for method in METHODS}
FORMS.update({method: ("",) for method in "neg iter enter next bool len".split()})
FORMS.update(call=("", "A", "AA"), getattr=("W",), delattr=("W",), setattr=("WA",), setitem=("AA",))

ODD = (None, True, False, (), [], "x", "", "unset", -1, 0.5, ("None",), [0], "none", (0,))
END = ("end", "returns", "None", ())


def goals(method, row):
    return tuple((word, row) for word in WORDS[method])


def asking(method, *args, to=0, row=2):
    return ("ask", method, args, to, goals(method, row))


class CodeTest(unittest.TestCase):
    def fails(self, word, row, *args):
        with self.assertRaises(InvalidCode) as caught:
            Code(*args)
        self.assertEqual((caught.exception.word, caught.exception.row), (word, row), args)

    def test_properties(self):
        rows = (("has", "add", 0, 1, 2), asking("add", 0, 1), END)
        code = Code(2, rows)
        self.assertEqual((code.params, code.rows, code.kept, code.shape, len(code)), (2, rows, None, (2, None), 3))
        part = Code(kept=0, rows=[END], params=0)
        self.assertEqual((part.params, part.rows, part.kept, part.shape, len(part)), (0, (END,), 0, (0, 0), 1))

    def test_equality(self):
        rows = (("set", 0, 1, 1), ("end", "returns", "None", (0,)))
        code = Code(1, rows, 1)
        self.assertEqual(code, Code(1, list(rows), 1))
        for other in (Code(2, rows, 1), Code(1, rows[1:], 1), Code(1, (END,)), Code(1, (END,), 0), rows, None, (1, rows, 1)):
            self.assertFalse(code == other)
            self.assertTrue(code != other)
        self.assertNotEqual(Code(0, (END,)), Code(0, (END,), 0))

    def test_later_changes(self):
        rows = [END]
        code = Code(0, rows)
        rows.append(5)
        self.assertEqual(code.rows, (END,))

    def test_no_rows(self):
        self.fails("goal", 0, 0, ())
        self.fails("goal", 0, 2, [], 3)

    def test_rows_that_are_none(self):
        for odd in ODD + (("ends",), ("jump",), ["jump", 0], ("jump", 0, 0), ("end",), ("",), (0,), (None,), (("jump", 0),), "jump", ("Jump", 0), ([0], 0), (["jump"], 0),
                          ("go", 0), ("unset",), ("nothing", 0)):
            self.fails("form", 0, 0, (odd, END))
            self.fails("form", 1, 0, (("jump", 2), odd, END))
            self.fails("form", 1, 0, (("jump", 0), odd, None), 2)

    def test_items_of_rows(self):
        right = {
            "has": ("has", "add", 0, 1, 1), "same": ("same", 0, "None", 1, 1), "kind": ("kind", 0, 1, 1), "true": ("true", "TypeError", 1, 1),
            "set": ("set", 0, 1, 1), "move": ("move", 0, 0), "unset": ("unset", 0), "jump": ("jump", 1),
        }
        operands, slots, rows = {"has": (2,), "same": (1, 2), "kind": (1,), "true": (1,), "move": (2,)}, {"set": (1,), "move": (1,), "unset": (1,)}, {
            "has": (3, 4), "same": (3, 4), "kind": (2, 3), "true": (2, 3), "set": (2, 3), "jump": (1,)}
        for word, row in right.items():
            Code(1, (row, END))
            self.fails("form", 0, 1, (row[:-1], END))
            self.fails("form", 0, 1, (row + (1,), END))
            self.fails("form", 0, 1, (list(row), END))
            for at in operands.get(word, ()):
                for operand in (0, "None", "True", "False", "TypeError", "ValueError", "NameError"):
                    Code(1, (row[:at] + (operand,) + row[at + 1:], END))
                for odd in ODD:
                    self.fails("form", 0, 1, (row[:at] + (odd,) + row[at + 1:], END))
            for at in slots.get(word, ()):
                Code(1, (row[:at] + (19,) + row[at + 1:], END))
                for odd in ODD + ("None", "TypeError"):
                    self.fails("form", 0, 1, (row[:at] + (odd,) + row[at + 1:], END))
            for at in rows.get(word, ()):
                for goal in (-1, 2, 99):
                    self.fails("goal", 0, 1, (row[:at] + (goal,) + row[at + 1:], END))
                for odd in ODD:
                    if odd != -1:
                        self.fails("form", 0, 1, (row[:at] + (odd,) + row[at + 1:], END))
        for odd in ODD + ("ADD", ".add", "TypeError", ["add"], ("add",), 0):
            self.fails("form", 0, 1, (("has", odd, 0, 1, 1), END))
            self.fails("form", 0, 1, (("ask", odd, (0, 0), 0, goals("add", 1)), END))

    def test_asks(self):
        for method in METHODS:
            has = ("has", method, 0, 1, 2)
            for form in ("", "A", "AA", "AAA", "W", "WA", "WAA", "AW", "WW"):
                items = tuple({"A": "None", "W": ".w"}[letter] for letter in form)
                rows = (has, asking(method, 0, *items), END)
                if form in FORMS[method]:
                    Code(1, rows)
                    for odd in ODD:
                        for at, letter in enumerate(form):
                            self.fails("form", 1, 1, (has, asking(method, 0, *items[:at], odd, *items[at + 1:]), END))
                        if odd != "unset":
                            self.fails("form", 1, 1, (has, asking(method, odd, *items), END))
                            self.fails("form", 1, 1, (has, asking(method, 0, *items, to=odd), END))
                else:
                    self.fails("form", 1, 1, rows)
            items = tuple({"A": "None", "W": ".w"}[letter] for letter in FORMS[method][0])
            right = goals(method, 2)
            for wrong in (right[:-1], right + right[-1:], right[::-1], list(right), right + (("x", 2),), right[1:] + right[:1], (), None, ("tells", 2),
                          ([*right[0]],) + right[1:], ((right[0][0],),) + right[1:], (("x", 2),) + right[1:], ((right[0][0], 2, 2),) + right[1:],
                          ((right[0][0], "2"),) + right[1:], ((right[0][0], True),) + right[1:], right[:-1] + (None,), right[:-1] + ((None, 2),)):
                self.fails("form", 1, 1, (has, ("ask", method, (0,) + items, 0, wrong), END))
            for goal in (-1, 3, 50):
                self.fails("goal", 1, 1, (has, ("ask", method, (0,) + items, 0, right[:-1] + ((right[-1][0], goal),)), END))
            self.fails("form", 1, 1, (has, ("ask", method, [0, *items], 0, right), END))
            self.fails("form", 1, 1, (has, ("ask", method, (), 0, right), END))
            self.fails("form", 1, 1, (has, ("ask", method, None, 0, right), END))
            self.fails("form", 1, 1, (has, ("ask", method, (0,) + items, 0, right, 2), END))
            self.fails("form", 1, 1, (has, ("ask", method, (0,) + items, 0), END))
        for word in ("w", ".", "..w", ".W", ".toolong", ".if", ".w ", ".w.v", "", None, ".None", [".w"]):
            self.fails("form", 1, 1, (("has", "getattr", 0, 1, 2), asking("getattr", 0, word), END))
        Code(1, (("has", "getattr", 0, 1, 2), asking("getattr", 0, ".abcdef"), END))

    def test_ends(self):
        for word in ("returns", "raises"):
            for operand in (0, "None", "True", "False", "TypeError"):
                Code(1, (("end", word, operand, ()),))
                Code(1, (("set", 0, 1, 1), ("set", 0, 2, 3), ("end", word, operand, (3, 0)), ("jump", 3)), 2)
            for odd in ODD:
                self.fails("form", 0, 1, (("end", word, odd, ()),))
        Code(1, (("end", "falls", "None", (0,)),), 1)
        Code(1, (("end", "falls", "None", ()),), 0)
        self.fails("form", 0, 1, (("end", "falls", "None", ()),))
        for odd in ("True", 0, "TypeError", None):
            self.fails("form", 0, 1, (("end", "falls", odd, (0,)),), 1)
        for odd in ("return", "endless", "", None, 0, ["returns"], "Returns", "asks"):
            self.fails("form", 0, 1, (("end", odd, "None", ()),))
            self.fails("form", 0, 1, (("end", odd, "None", (0,)),), 1)
        for odd in ODD:
            if odd not in ((), (0,)):
                self.fails("form", 0, 1, (("end", "returns", "None", odd),))
            self.fails("form", 0, 1, (("end", "returns", "None", (odd,)),), 1)
            self.fails("form", 0, 1, (("end", "returns", "None", (0, odd)),), 1)
        for many, kept in ((None, (0,)), (0, (0,)), (1, ()), (1, (0, 0)), (2, (0,)), (2, ()), (3, (0, 1))):
            self.fails("kept", 0, 1, (("end", "returns", "None", kept),), many)
        self.fails("kept", 1, 1, (("set", 0, 1, 2), ("end", "raises", "None", ()), ("end", "falls", "None", ())), 1)

    def test_goals(self):
        self.fails("goal", 0, 0, (("jump", 1),))
        self.fails("goal", 0, 0, (("jump", -1), END))
        self.fails("goal", 1, 1, (("jump", 1), ("move", 0, "None")))
        self.fails("goal", 1, 1, (("jump", 1), ("unset", 0)))
        self.fails("goal", 0, 1, (("move", 0, "None"),))
        Code(1, (("jump", 1), ("move", 0, "None"), END))
        Code(0, (("jump", 0),))

    def test_first_wrong_row(self):
        self.fails("goal", 0, 1, (("jump", 9), None))
        self.fails("form", 0, 1, (None, ("jump", 9)))
        self.fails("kept", 0, 1, (("end", "returns", "None", (0,)), ("jump", 9), None))
        self.fails("goal", 1, 1, (END, ("jump", 7), ("end", "returns", "None", (0,))))
        # Form, goals and kept slots of all rows come ahead of whatever is so on the ways.
        self.fails("form", 2, 1, (END, ("move", 1, 5), None))
        self.fails("goal", 2, 1, (END, ("move", 1, 5), ("unset", 0)))
        self.fails("kept", 2, 1, (END, ("move", 1, 5), ("end", "returns", "None", (1,))))
        self.fails("astray", 1, 1, (("end", "returns", 5, ()), END))
        self.fails("astray", 2, 1, (("move", 1, 5), asking("add", 5, 5, row=1), END))
        # Of the rows that read what is unset or ask what lacks, the first one counts.
        self.fails("unset", 0, 1, (("move", 1, 5), asking("add", 0, 0), END))
        self.fails("lacks", 0, 1, (asking("add", 0, 0, row=1), ("move", 1, 5), END))
        self.fails("unset", 0, 1, (asking("add", 0, 5, row=1), END))
        self.fails("unset", 0, 1, (asking("add", 5, 0, row=1), END))
        self.fails("unset", 0, 1, (asking("add", "None", 5, row=1), END))

    def test_astray(self):
        self.fails("astray", 1, 0, (("jump", 0), END))
        self.fails("astray", 1, 0, (END, ("jump", 0)))
        self.fails("astray", 2, 1, (("jump", 1), END, END))
        self.fails("astray", 2, 1, (("same", 0, 0, 1, 3), END, ("jump", 3), END))
        self.fails("astray", 1, 1, (END, ("jump", 2), ("jump", 1)))
        Code(1, (("same", 0, 0, 1, 2), END, END))
        Code(1, (("has", "add", 0, 1, 2), ("ask", "add", (0, 0), 0, (("declines", 2), ("raises", 3), ("tells", 4))), END, END, END))

    def test_unset(self):
        reading = [("has", "add", 1, 1, 1), ("same", 1, 0, 1, 1), ("same", 0, 1, 1, 1), ("kind", 1, 1, 1), ("true", 1, 1, 1), ("move", 0, 1), ("move", 1, 1)]
        for row in reading:
            self.fails("unset", 0, 1, (row, END))
            Code(2, (row, END))
            self.fails("unset", 0, 2, (row, END), 0)
            self.fails("unset", 1, 2, (("unset", 1), row[:3] + (2,) * len(row[3:]) if row[0] in ("has", "same") else
                                       row[:2] + (2, 2) if row[0] in ("kind", "true") else row, END))
        self.fails("unset", 0, 1, (("end", "returns", 1, ()),))
        self.fails("unset", 0, 1, (("end", "raises", 0, ()),), 0)
        # Looking is not reading.
        Code(0, (("set", 0, 1, 1), ("unset", 4), END))
        Code(0, (("end", "falls", "None", (0, 7)),), 2)
        # Behind yes of a `set` it is set, behind no it is not, even if it was.
        Code(1, (("set", 0, 1, 2), ("end", "returns", 0, ()), END), None)
        Code(0, (("set", 0, 1, 2), ("end", "returns", 0, ()), END))
        self.fails("unset", 2, 1, (("set", 0, 1, 2), END, ("end", "returns", 0, ())))
        Code(0, (("set", 0, 1, 2), END, ("move", 0, "None"), ("end", "returns", 0, ())))
        self.fails("unset", 2, 0, (("set", 0, 1, 3), ("unset", 0), ("end", "returns", 0, ()), END))
        # Ways that meet: one of them is enough.
        self.fails("unset", 4, 1, (("true", 0, 1, 3), ("move", 1, "None"), ("jump", 4), ("jump", 4), ("end", "returns", 1, ())))
        Code(1, (("true", 0, 1, 3), ("move", 1, "None"), ("jump", 5), ("move", 1, "True"), ("jump", 5), ("end", "returns", 1, ())))
        self.fails("unset", 0, 1, (("true", 0, 1, 2), ("unset", 0), ("jump", 0)))
        # An answer sets a slot if it tells or raises.
        Code(1, (("has", "next", 0, 1, 4), ("ask", "next", (0,), 1, (("raises", 3), ("stop", 4), ("tells", 2))),
                 ("end", "returns", 1, ()), ("end", "raises", 1, ()), END))
        self.fails("unset", 2, 1, (("has", "next", 0, 1, 3), ("ask", "next", (0,), 1, (("raises", 3), ("stop", 2), ("tells", 3))),
                                   ("end", "returns", 1, ()), END))
        self.fails("unset", 2, 1, (("has", "add", 0, 1, 3), ("ask", "add", (0, 0), 1, (("declines", 2), ("raises", 3), ("tells", 3))),
                                   ("end", "returns", 1, ()), END))
        for method in ("bool", "len"):
            self.fails("unset", 2, 1, (("has", method, 0, 1, 3), asking(method, 0, to=1), ("end", "returns", 1, ()), END))
        self.fails("unset", 2, 1, (("has", "delattr", 0, 1, 3), ("ask", "delattr", (0, ".w"), 1, (("done", 2), ("raises", 3))),
                                   ("end", "returns", 1, ()), END))

    def test_lacks(self):
        has, end = ("has", "add", 0, 1, 2), END
        Code(1, (has, asking("add", 0, 0), end))
        self.fails("lacks", 0, 1, (asking("add", 0, 0, row=1), end))
        self.fails("lacks", 1, 1, (("has", "add", 0, 2, 1), asking("add", 0, 0), end))
        self.fails("lacks", 1, 1, (("has", "sub", 0, 1, 2), asking("add", 0, 0), end))
        self.fails("lacks", 1, 2, (("has", "add", 1, 1, 2), asking("add", 0, 0), end))
        self.fails("lacks", 1, 1, (("has", "add", "None", 1, 2), asking("add", "None", 0), end))
        self.fails("lacks", 0, 1, (asking("add", "TypeError", 0, row=1), end))
        # Until the next ask, whatever is answered.
        self.fails("lacks", 2, 1, (("has", "add", 0, 1, 3), asking("add", 0, 0, to=1), asking("add", 0, 0, row=3), end))
        self.fails("lacks", 3, 2, (("has", "add", 0, 1, 4), ("has", "neg", 1, 2, 4), asking("neg", 1, to=2, row=3), asking("add", 0, 0, row=4), end))
        # Until the slot is changed.
        self.fails("lacks", 2, 2, (("has", "add", 0, 1, 3), ("move", 0, 1), asking("add", 0, 0, row=3), end))
        self.fails("lacks", 2, 2, (("has", "add", 0, 1, 3), ("move", 0, 0), asking("add", 0, 0, row=3), end))
        self.fails("unset", 2, 2, (("has", "add", 0, 1, 3), ("unset", 0), asking("add", 0, 0, row=3), end))
        Code(2, (("has", "add", 0, 1, 4), ("set", 1, 2, 3), ("same", 0, 1, 3, 3), asking("add", 0, 0, row=4), end))
        Code(2, (("has", "add", 0, 1, 5), ("move", 1, 0), ("true", 0, 3, 4), asking("add", 0, 1, row=5), asking("add", 0, 1, row=5), end))
        # What is moved is not known of the slot it is moved to.
        self.fails("lacks", 2, 2, (("has", "add", 0, 1, 3), ("move", 1, 0), asking("add", 1, 0, row=3), end))
        # On all ways.
        self.fails("lacks", 3, 1, (("true", 0, 1, 2), ("has", "add", 0, 3, 4), ("jump", 3), asking("add", 0, 0, row=4), end))
        Code(1, (("true", 0, 1, 2), ("has", "add", 0, 3, 4), ("has", "add", 0, 3, 4), asking("add", 0, 0, row=4), end))
        self.fails("lacks", 1, 1, (has, ("ask", "add", (0, 0), 1, (("declines", 1), ("raises", 2), ("tells", 2))), end))
        Code(1, (has, ("ask", "add", (0, 0), 1, (("declines", 0), ("raises", 2), ("tells", 0))), end))
        # A method that is told to lack later is still known to be there.
        Code(1, (("has", "add", 0, 1, 3), ("has", "add", 0, 2, 2), asking("add", 0, 0, row=3), end))

    def test_other_slots_and_methods(self):
        """What a row tells of one slot or method tells nothing of another one."""
        # A slot that is told unset, unset, set or moved into leaves the others as they were.
        self.fails("unset", 1, 1, (("set", 1, 2, 1), ("end", "returns", 2, ()), END))
        self.fails("unset", 1, 1, (("unset", 1), ("end", "returns", 2, ())))
        self.fails("unset", 1, 1, (("move", 1, 0), ("end", "returns", 2, ())))
        self.fails("unset", 2, 1, (("set", 1, 1, 3), ("set", 2, 3, 2), ("end", "returns", 2, ()), END))
        Code(2, (("unset", 2), ("end", "returns", 1, ())))
        Code(2, (("move", 2, 0), ("end", "returns", 1, ())))
        Code(1, (("unset", 0), ("move", 0, "None"), ("end", "returns", 0, ())))
        # Nothing is known of constants, and of no slot behind a move into another one.
        self.fails("lacks", 2, 1, (("has", "add", 0, 1, 1), ("has", "add", "None", 2, 3), asking("add", 0, 0, row=3), END))
        self.fails("lacks", 3, 1, (("has", "add", 0, 2, 1), ("jump", 2), ("move", 1, "None"), asking("add", 0, 0, row=4), END))
        self.fails("lacks", 2, 2, (("has", "add", 0, 1, 3), ("unset", 1), asking("sub", 0, 0, row=3), END))
        Code(2, (("has", "add", 0, 1, 3), ("unset", 1), asking("add", 0, 0, row=3), END))
        Code(2, (("has", "add", 0, 1, 4), ("has", "sub", 0, 2, 4), ("move", 1, 0), asking("add", 0, 1, row=4), END))

    def test_each_row(self):
        """What a row does, of a code with three params."""
        def end(row, begin, lacking=""):
            yes, no = ("end", "returns", "True", ()), ("end", "returns", "False", ())
            code = Code(3, (row + (1, 2), yes, no))
            return code(Book.read(f"begin {begin}\n{lacking}".strip()))[1][1]

        self.assertEqual(end(("has", "add", 0), "0 1 2"), "True")
        self.assertEqual(end(("has", "add", 0), "0 1 2", "add:0"), "False")
        self.assertEqual(end(("has", "add", 1), "0 1 2", "add:0"), "True")
        self.assertEqual(end(("has", "add", 1), "0 0 1", "add:0"), "False")
        self.assertEqual(end(("has", "add", 0), "0 1 2", "sub:0"), "True")
        for word in ("None", "True", "False", "TypeError", "ValueError", "NameError"):
            self.assertEqual(end(("has", "add", word), "0 1 2"), "False")
            self.assertEqual(end(("same", word, word), "0 1 2"), "True")
            self.assertEqual(end(("same", word, 0), "0 1 2"), "False")
            self.assertEqual(end(("kind", word), "0 1 2"), "False" if word.endswith("Error") else "True")
            self.assertEqual(end(("true", word), "0 1 2"), "False" if word in ("None", "False") else "True")
        self.assertEqual(end(("same", 0, 1), "0 0 1"), "True")
        self.assertEqual(end(("same", 0, 1), "0 1 2"), "False")
        self.assertEqual(end(("same", "None", "True"), "0 1 2"), "False")
        self.assertEqual(end(("kind", 0), "0 1 2"), "False")
        self.assertEqual(end(("true", 0), "0 1 2", "bool:0 len:0"), "True")
        self.assertEqual(end(("set", 0), "0 1 2"), "True")
        self.assertEqual(end(("set", 3), "0 1 2"), "False")

        def kept(*rows):
            code = Code(2, rows + (("end", "falls", "None", (0, 1, 2, 3)),), 4)
            return code(Book((0, "unset")))[1]

        self.assertEqual(kept(("set", 0, 1, 1)), ("falls", "None", (0, "unset", "unset", "unset")))
        self.assertEqual(kept(("move", 3, "NameError")), ("falls", "None", (0, "unset", "unset", "NameError")))
        self.assertEqual(kept(("unset", 0), ("unset", 2)), ("falls", "None", ("unset", "unset", "unset", "unset")))
        self.assertEqual(kept(("set", 0, 1, 5), ("move", 1, 0), ("unset", 0), ("jump", 4), ("move", 2, 1)),
                         ("falls", "None", ("unset", 0, 0, "unset")))
        self.assertEqual(Code(0, (("jump", 0),))(Book(())), ((), ("endless",)))
        self.assertEqual(Code(1, (("end", "raises", 0, ()),))(Book((0,))), ((), ("raises", 0, ())))
        self.assertEqual(Code(1, (("move", 0, "None"), ("jump", 0)))(Book((0,))), ((), ("endless",)))
        self.assertEqual(Code(1, (("unset", 0), ("move", 0, "None"), ("jump", 0)), 0)(Book((0,))), ((), ("endless",)))
        # Rows that are gone through again with other things are no end of the matter.
        again = (("set", 0, 1, 5), ("set", 1, 2, 4), ("unset", 1), ("jump", 0), ("unset", 0), ("end", "falls", "None", (0, 1)))
        self.assertEqual(Code(2, again, 2)(Book((0, 1)))[1], ("falls", "None", ("unset", "unset")))

    def test_answers(self):
        """What an answer puts into a slot, and where it leads."""
        for method in METHODS:
            items = tuple({"A": 0, "W": ".w"}[letter] for letter in FORMS[method][-1])
            ends = tuple(("end", "returns", constant, (1,)) for constant in ("None", "True", "False")[:len(WORDS[method])])
            rows = (("set", 0, 1, 2), ("has", method, 0, 3, 2), ("end", "falls", "None", (1,)),
                    ("ask", method, (0,) + items, 1, tuple((word, 4 + at) for at, word in enumerate(WORDS[method])))) + ends
            code = Code(1, rows, 1)
            for at, word in enumerate(WORDS[method]):
                answer = (word, 1) if word in ("tells", "raises") else (word,)
                call = (method, 0) + items
                told = 1 if len(answer) == 2 else "unset"
                self.assertEqual(code(Book((0,), (((), answer),))), (((call, answer),), ("returns", ("None", "True", "False")[at], (told,))))

    def test_errors_of_walks(self):
        code = Code(1, (("has", "bool", 0, 1, 2), asking("bool", 0), END))
        for word, at, text in (("begin", 0, "begin"), ("begin", 1, "begin 0 0"), ("begin", 0, "begin unset"), ("answer", 0, "begin 0\ntells 0"),
                               ("answer", 0, "begin 0\nstop")):
            with self.assertRaises(InvalidBook) as caught:
                code(Book.read(text))
            self.assertEqual((caught.exception.word, caught.exception.at), (word, at))
        self.assertEqual(code(Book.read("begin 0\nyes\nno"))[1], ("returns", "None", ()))

    def test_runs(self):
        code = Code(1, (("set", 0, 1, 6), ("move", 3, "None"), ("has", "next", 0, 3, 6),
                        ("ask", "next", (0,), 1, (("raises", 4), ("stop", 6), ("tells", 5))),
                        ("end", "raises", 1, (0, 3)), ("end", "returns", 1, (1, 2)), ("end", "falls", "None", (0, 0))), 2)
        run = Run(code, ("unset",))
        self.assertEqual((run.held, run.ask()), ({}, ("falls", "None", ("unset", "unset"))))
        run = Run(code, (0,))
        self.assertEqual((run.held, run.calls, len(run)), ({0: 0}, (), 0))
        self.assertEqual(run.ask([("next", 0)]), ("falls", "None", (0, 0)))
        self.assertEqual(run.tell(("tells", 1)), ("next", 0))
        self.assertEqual(run.held, {0: 0, 3: "None"})
        self.assertEqual(run.ask(), ("returns", 1, (1, "unset")))
        self.assertTrue(run.back())
        self.assertEqual(run.held, {0: 0})
        self.assertEqual(run.tell(("raises", 0)), ("next", 0))
        self.assertEqual(run.ask(), ("raises", 0, (0, "None")))
        with self.assertRaises(InvalidBook) as caught:
            run.tell(("stop",))
        self.assertEqual((caught.exception.word, caught.exception.at), ("over", 0))
        with self.assertRaises(InvalidBook) as caught:
            Run(Code(1, (END,)), ("unset",))
        self.assertEqual((caught.exception.word, caught.exception.at), ("begin", 0))
        # All slots count, also those of rows that read nothing.
        run = Run(Code(1, (("move", 12, "True"), ("has", "neg", 0, 2, 3), asking("neg", 0, to=15, row=3), END)), (0,))
        run.tell(("tells", 0))
        self.assertEqual(run.held, {0: 0, 12: "True"})


class CompiledTest(unittest.TestCase):
    def check(self, piece, dice, rounds):
        code = compiled(piece)
        self.assertEqual(code.shape, piece.shape)
        self.assertEqual(Code(code.params, code.rows, code.kept), code)
        self.assertIs(type(code), Code)
        for _ in range(rounds):
            begin, many = [], 0
            for _ in piece.params:
                begin.append(dice.choice([*range(many + 1)] + ([] if piece.kept is None else ["None", "TypeError", "unset"])))
                many += begin[-1] == many
            moments, lackings = [], []
            while True:
                lackings.append(tuple((dice.choice(METHODS), dice.randrange(many)) for _ in range(dice.choice((0, 0, 9, 30)))) if many else ())
                walk = Walk(piece, begin, [answer for _, answer in moments], lackings)
                outcome = walk.outcome()
                book = Book(tuple(begin), moments, lackings[-1])
                walked = (tuple(zip(walk.calls, walk.answers)), ("asks", outcome) if outcome[0] in METHODS else outcome)
                self.assertEqual(code(book), walked)
                self.assertEqual(piece(book), walked)
                if outcome[0] not in METHODS or len(moments) > 12:
                    break
                answer = dice.choice(answers_to(outcome, many))
                many += answer[-1] == many
                moments.append((lackings[-1], answer))

    def test_random_pieces(self):
        for seed in range(300):
            dice = random.Random(seed)
            self.check(random_piece(dice), dice, 4)
            self.check(random_piece(dice, plain=True), dice, 3)

    def test_shapes(self):
        for text, shape in (("params\npass", (0, None)), ("params x y\nreturn x", (2, None)), ("params x\nkept\npass", (1, 0)),
                            ("params\nkept x y\nx = y", (0, 2))):
            self.assertEqual(compiled(Piece.read(text)).shape, shape)
        self.assertEqual(compiled(piece=Piece.read("params\npass"))(Book(())), ((), ("returns", "None", ())))

    def test_big_pieces(self):
        """As many statements, as deep, with as big expressions as there may be; and nested last bodies."""
        sums = "x + y - x * y + -x[y](x, y)"
        lines = "\n".join(f"x = {sums}\nif {sums}:\n while {sums}:\n  y.w = {sums}\n  break" for _ in range(5))
        code = compiled(Piece.read(f"params x y\n{lines}"))
        self.assertEqual(code(Book((0, 1)))[1], ("asks", ("add", 0, 1)))
        text = "params x\n" + "\n".join(f"{' ' * depth}try:" for depth in range(4)) + "\n" + " " * 4 + "return x()\n"
        text += "\n".join(f"{' ' * depth}finally:\n{' ' * depth} x()" for depth in (3, 2, 1, 0))
        code = compiled(Piece.read(text))
        book = Book((0,), tuple(((), ("tells", 1)) for _ in range(5)))
        self.assertEqual(code(book)[1], ("returns", 1, ()))
        self.assertEqual(code(book), Piece.read(text)(book))


if __name__ == "__main__":
    unittest.main()
