"""Comparing pieces and codes: [29] and [30]."""

import random
import unittest

from helper import Maker, Walk, least_parting, random_piece
from pieceasks.books import METHODS, Book
from pieceasks.codes import Code, compiled
from pieceasks.comparing import compare, is_alike, parts_on
from pieceasks.errors import InvalidBook, InvalidPromise, OtherShape
from pieceasks.pieces import Piece
from pieceasks.promises import Promises

# Pairs of texts without their first line, which are alike: whole pieces with params x y, and parts.
ALIKE = (
    ("pass", "return None"), ("pass", "pass\npass"), ("x", "pass"), ("x = x", "pass"), ("return x", "z = x\nreturn z"),
    ("raise x", "z = x\nraise z"), ("raise None", "raise True"), ("raise z", "return z"), ("z", "raise z"), ("del z", "z"),
    ("x, y = y, x\nreturn x", "return y"), ("if x is y:\n return x\nreturn y", "return y"), ("return x is x", "return True"),
    ("return x is y", "if x is y:\n return True\nelse:\n return False"), ("return x is not y", "return not x is y"),
    ("return not not x", "return True if x else False"), ("return x and y", "return y if (z := x) else z"), ("return x or y", "if (z := x):\n return z\nreturn y"),
    ("if x:\n return y", "return y if x else None"), ("if not x:\n y()", "if x:\n pass\nelse:\n y()"), ("x + y\nreturn z", "z = x + y\nreturn w"),
    ("return x < y < x", "return (x < y) and (y < x)"), ("return x == y == x", "if (z := x == y):\n return y == x\nreturn z"),
    ("while x:\n y()", "while True:\n if not x:\n  break\n y()"), ("while x:\n y()\nelse:\n return x", "while x:\n y()\nreturn x"),
    ("while True:\n pass", "while x is x:\n x = x"), ("while True:\n pass", "while True:\n if x is y:\n  x = x"), ("while True:\n x, y = y, x", "while True:\n continue"),
    ("while True:\n x()", "while True:\n x()\n x()"), ("for z in x:\n y()", "for z in x:\n y()\n continue"), ("for z in x:\n return z\nreturn y", "for z in x:\n break\nelse:\n return y\nreturn z"),
    ("try:\n x()\nfinally:\n y()", "try:\n x()\nexcept as z:\n y()\n raise z\ny()"), ("try:\n return x()\nfinally:\n pass", "return x()"),
    ("try:\n x()\nexcept:\n raise y", "try:\n z = x()\nexcept as z:\n raise y"), ("try:\n pass\nexcept:\n x()", "pass"), ("try:\n raise x\nexcept as y:\n return y", "return x"),
    ("with x as z:\n y()\nreturn None", "with x:\n y()"), ("x += y", "x = (z := x)\nx += y"), ("x[y] += y", "z = x\nw = y\nz[w] += w"), ("x.w = y", "z = y\nx.w = z"),
    ("x()\nreturn x", "z = x()\nreturn x"), ("return x(y) if x else y", "if x:\n return x(y)\nreturn y"), ("x, y = y\nreturn x", "z, w = y\nreturn z"),
    ("return None + x", "y = None\nreturn y + x"), ("return None + True", "raise None"), ("return None < True", "return -None"), ("return None == True", "return False"),
    ("return (True).w", "return None()"), ("raise True", "return None[x]"), ("for z in None:\n x()", "None[x]"), ("return x in None", "return None(x)"),
)

# Pairs that are not alike, with the least number of answers.
UNLIKE = (
    (0, "pass", "return x"), (0, "return x", "return y"), (0, "return x", "raise x"), (0, "raise x", "raise y"), (0, "return None", "return False"),
    (0, "raise None", "raise z"), (0, "while True:\n pass", "pass"), (0, "while True:\n pass", "while x:\n pass"), (0, "return -x", "return x()"),
    (0, "x += y\nreturn x", "x = x + y\nreturn x"), (0, "return x + y", "return y + x"), (0, "return x == y", "return y == x"), (0, "return x != y", "return not x == y"),
    (0, "return x < y", "return y > x"), (0, "return x in y", "return y in x"), (0, "x[y]", "x.y"), (0, "x.w", "x.v"), (0, "x()", "x(x)"), (0, "x(y)", "x(x)"),
    (0, "return x is y", "return x == y"), (0, "if x:\n return y\nreturn y", "return y"), (0, "-x", "try:\n -x\nexcept:\n pass"),
    (1, "return x()", "x()"), (1, "return x + y", "return x + y + y"), (0, "return x()", "try:\n return x()\nexcept as z:\n return z"), (1, "x()\nx()", "x()"),
    (1, "return x is x()", "x()\nreturn False"), (1, "return not x", "return False if x else x"), (1, "x()\nwhile True:\n pass", "x()"),
    (0, "return y if x else x", "return x if x else y"), (1, "x += y", "x += y\nreturn x"), (1, "del x[y]\nreturn x", "del x[y]\nreturn y"),
    (1, "x.w = y\nx.w = x", "x.w = y\nx.w = y"), (1, "with x:\n pass", "with x as y:\n y()"), (1, "x(x)\ny(y)", "x(x)\ny(x)"),
    (2, "x()\nx()\nreturn x()", "x()\nx()\nx(y)"), (2, "with x:\n y()", "with x:\n y()\n y()"), (2, "for z in x:\n z()", "for z in x:\n z(z)"),
    (2, "return x() is x()", "return x() is not x()"), (2, "for z in x:\n z()\nreturn z", "for z in x:\n z()\nreturn x"),
    (4, "x, y = x\nreturn x", "y, x = x\nreturn x"), (2, "with x:\n y()\nreturn x", "with x:\n y()"), (3, "while x():\n if x():\n  return x()", "while x():\n if x():\n  x()\n  return y"),
)

# Parts with params x y: kept names, two texts, and the least number of answers if they part.
PARTS = (
    ("x", "x = y", "x = y\ny = None", None), ("x", "x = y", "x, y = y, x", 0), ("x y", "pass", "x = x", 0), ("y", "pass", "x", 0), ("y", "pass", "y = y", 0),
    ("y", "x = None", "pass", None), ("y z", "z = x", "z = x\nx = y", 0), ("", "x()", "return x()", 1), ("", "return x", "return y", 0), ("", "x = y", "y = x", 0),
    ("x", "x\nx = None", "x = x\nx = None", None), ("x", "del x", "x\ndel x", None), ("x", "x\ndel x", "try:\n del x\nfinally:\n pass", None),
    ("x", "try:\n del x\nexcept:\n pass", "try:\n raise y\nexcept as x:\n pass", None), ("x y", "x = -x", "y = -x\nx = y", 1),
    ("x", "x = -x", "y = -x\nx = y", None), ("x", "x = -x", "x = --x", 1), ("z", "return x", "z = y\nreturn x", 0), ("x", "raise y", "raise y\nx = y", None),
    ("x", "return None", "pass", 0), ("", "return None", "pass", 0), ("x", "raise True", "raise None", None), ("x", "raise True", "y = x\nraise y", 0),
    ("x", "if x:\n x = y", "x = y if x else x", None), ("x z", "for z in y:\n x = z", "for z in y:\n x = z\nelse:\n pass", None),
    ("x", "for z in y:\n x = z", "for x in y:\n pass", None), ("x z", "for z in y:\n x = z", "for x in y:\n pass", 2),
    ("x", "while x:\n x = y(x)", "while True:\n if not x:\n  break\n x = y(x)", None),
)


def whole(text):
    return Piece.read("params x y\n" + text)


class Comparing(unittest.TestCase):
    def check(self, least, one, other, vows=(), brute=2):
        """Makes sure that two pieces part on a book with so many moments at least, or not at all (None)."""
        about = (str(one), str(other), vows)
        for first, second in ((one, other), (other, one), (compiled(one), other), (one, compiled(other)), (compiled(one), compiled(other))):
            book = compare(first, second, vows)
            self.assertEqual(is_alike(first, second, vows), least is None, about)
            if least is None:
                self.assertIsNone(book, about)
            else:
                self.assertIs(type(book), Book)
                self.assertEqual(len(book), least, (about, str(book)))
                self.check_book(one, other, book, vows)
        shortest = least_parting(one, other, brute, vows)
        self.assertEqual(shortest, least if least is None or least <= brute else None, about)

    def check_book(self, one, other, book, vows):
        """Makes sure that a book suits both, keeps the promises, and parts them, but not earlier."""
        about = (str(one), str(other), str(book))
        told, other_told = one(book), other(book)
        self.assertTrue(parts_on(one, other, book), about)
        self.assertEqual(told[0], other_told[0], about)
        self.assertEqual(len(told[0]), len(book), about)
        self.assertNotEqual(told[1], other_told[1], about)
        for piece in (one, other):
            self.assertTrue(Promises(tuple(vows)).kept_by(piece, book), about)
            walk = Walk(piece, book.begin, [answer for _, answer in book.moments], [lacking for lacking, _ in book.moments] + [book.lacking])
            outcome = walk.outcome()
            self.assertEqual(("asks", outcome) if outcome[0] in METHODS else outcome, (told if piece is one else other_told)[1], about)
        for many in range(len(book)):
            self.assertFalse(parts_on(one, other, book.upto(many)), about)


class PairsTest(Comparing):
    def test_example(self):
        one, other = whole("x += y\nreturn x"), whole("x = x + y\nreturn x")
        self.assertEqual(len(compare(one, other)), 0)
        self.assertIsNone(compare(one, other, Promises.read("bare iadd")))
        self.assertIsNone(compare(one=one, other=other, promises=(("bare", "iadd"),)))
        self.assertIsNone(compare(one, other, [("bare", "iadd")]))
        self.assertTrue(is_alike(one=one, other=other, promises=Promises.read("bare iadd")))
        self.assertFalse(is_alike(one, other))

    def test_alike(self):
        for text, other in ALIKE:
            self.check(None, whole(text), whole(other))
            self.check(None, whole(text), whole(text), brute=0)

    def test_unlike(self):
        for least, text, other in UNLIKE:
            self.check(least, whole(text), whole(other))

    def test_parts(self):
        for kept, text, other, least in PARTS:
            first = f"params x y\nkept {kept}\n".replace("kept \n", "kept\n")
            self.check(least, Piece.read(first + text), Piece.read(first + other), brute=1)

    def test_other_names(self):
        """The names of params are free, and so are those of others."""
        one = Piece.read("params x y\nz = x + y\nfor w in z:\n x = w\nreturn x")
        for text, least in (("params b a\nc = b + a\nfor d in c:\n b = d\nreturn b", None), ("params y x\nz = y + x\nfor w in z:\n y = w\nreturn y", None),
                            ("params y x\nz = x + y\nfor w in z:\n x = w\nreturn x", 0), ("params b a\nfor b in b + a:\n pass\nreturn b", None)):
            self.check(least, one, Piece.read(text), brute=1)
        part = Piece.read("params a b\nkept b a\na += b")
        self.check(None, part, Piece.read("params b a\nkept a b\nb += a"))
        self.check(0, part, Piece.read("params a b\nkept a b\na += b"), brute=1)

    def test_coinciding_things(self):
        """Pieces that part only where two things are one, or where a thing is told again."""
        self.check(0, whole("return x"), whole("return y if x is not y else None"))
        self.check(0, whole("return y is x"), whole("return False"))
        self.check(1, whole("x()\nreturn None"), whole("return y() if x() is y else None"), brute=1)
        self.check(2, whole("x()\ny()"), whole("if x() is y():\n return x"), brute=2)
        self.check(None, whole("x = x()\nreturn x is x"), whole("x()\nreturn True"))

    def test_lacking_at_several_moments(self):
        """A method that a thing has at one moment it may lack at the next one."""
        self.check(1, whole("-x\n-x"), whole("-x\ntry:\n -x\nexcept:\n pass"), brute=1)
        self.check(0, whole("if x:\n pass"), whole("not not x\nreturn x"))
        # At one moment it is there both times or neither.
        self.check(None, whole("try:\n x + None\nexcept:\n try:\n  x + None\n except:\n  return x\n return y"),
                   whole("try:\n x + None\nexcept:\n return x\nreturn None"), (("takes", "add"), ("calm", "add"), ("bare", "radd")), brute=1)

    def test_endless(self):
        self.check(None, whole("while True:\n pass"), whole("while True:\n try:\n  None()\n except as z:\n  y = z"))
        self.check(0, whole("while True:\n pass"), whole("while True:\n if x is y:\n  break"))
        self.check(None, whole("while x:\n pass"), whole("while x:\n y = x"))
        self.check(0, whole("while x:\n x = y"), whole("while x:\n y = x"), brute=1)
        self.check(1, whole("while x:\n x = y"), whole("while x:\n y = x"), (("has", "bool"),), brute=1)
        self.check(1, whole("while x:\n pass"), whole("if x:\n while True:\n  pass"))
        self.check(None, whole("while x:\n pass"), whole("while True:\n if not x:\n  return None"), (("bare", "bool"),))
        self.check(None, whole("while x:\n pass"), whole("while True:\n pass"), (("bare", "bool"), ("bare", "len")))
        self.check(0, whole("while x:\n pass"), whole("while True:\n pass"), (("bare", "bool"),))

    def test_raising(self):
        self.check(None, whole("try:\n x()\nexcept as z:\n raise z"), whole("x()"))
        self.check(0, whole("try:\n x()\nexcept as z:\n raise y"), whole("x()"))
        self.check(1, whole("try:\n x()\nexcept as z:\n raise z"), whole("x()\nreturn y"))
        self.check(1, whole("try:\n x()\nexcept as z:\n raise y"), whole("x()"), (("has", "call"),))
        self.check(0, whole("raise x"), whole("raise y"))
        self.check(None, whole("raise None"), whole("-None"))


class CodesTest(Comparing):
    def test_codes(self):
        end = ("end", "returns", 0, ())
        goals = (("raises", 2), ("tells", 2))
        plain = Code(1, (("has", "neg", 0, 1, 2), ("ask", "neg", (0,), 0, goals), end))
        longer = Code(1, (("jump", 3), end, ("jump", 1), ("move", 4, 0), ("has", "neg", 4, 5, 2), ("ask", "neg", (4,), 0, (("raises", 1), ("tells", 2)))))
        self.assertIsNone(compare(plain, longer))
        self.assertIsNone(compare(plain, plain))
        lost = Code(1, (("has", "neg", 0, 1, 2), ("ask", "neg", (0,), 5, goals), end))
        self.assertEqual(len(compare(plain, lost)), 1)
        self.assertIsNone(compare(plain, lost, (("itself", "neg"), ("calm", "neg"))))
        blind = Code(1, (end,))
        self.assertEqual((len(compare(plain, blind)), compare(plain, blind, (("bare", "neg"),))), (0, None))
        self.assertIsNone(compare(Piece.read("params x\nreturn x"), blind))
        self.assertEqual(str(compare(Piece.read("params x\nreturn -x"), blind)), "begin 0")
        self.assertIsNone(compare(Code(0, (("jump", 0),)), Piece.read("params\nwhile True:\n pass")))

    def test_rows_behind_a_call(self):
        """Codes that make one call, and then differ in one item of one row."""
        def code(*rows):
            return Code(2, (("set", 0, 1, 3), ("has", "neg", 0, 2, 3), ("ask", "neg", (0,), 3, (("raises", 3), ("tells", 4))),
                            ("end", "falls", "None", (0, 1)), *rows), 2)

        yes, no = ("end", "returns", "None", (0, 1)), ("end", "raises", "None", (1, 0))

        def asks(row):
            goals = {"iter": (("raises", 7), ("tells", 7))}.get(row[1], (("declines", 7), ("raises", 7), ("tells", 7)))
            return (("set", 1, 5, 7), ("has", row[1], 0, 6, 7), row + (goals,), ("end", "returns", "None", (0, 1)))

        for one, other in (
            ((("move", 1, 0), yes), (("move", 1, "None"), yes)), ((("move", 1, 0), yes), (("move", 0, 0), yes)),
            ((("move", 1, 0), yes), (("move", 1, 3), yes)), ((("unset", 0), yes), (("unset", 1), yes)), ((yes,), (no,)),
            ((("end", "returns", 0, (0, 1)),), (("end", "returns", 3, (0, 1)),)), ((("end", "returns", 0, (0, 1)),), (("end", "raises", 0, (0, 1)),)),
            ((("end", "returns", 0, (0, 1)),), (("end", "returns", 0, (0, 0)),)), ((yes,), (("end", "returns", "None", (1, 0)),)),
            ((("end", "returns", 0, (0, 3)),), (("end", "returns", 3, (0, 3)),)), ((("same", 0, 3, 5, 6), yes, no), (("same", 3, 3, 5, 6), yes, no)),
            ((("kind", 0, 5, 6), yes, no), (("true", 0, 5, 6), yes, no)), ((("set", 0, 5, 6), yes, no), (("set", 1, 5, 6), yes, no)),
            ((("has", "add", 0, 5, 6), yes, no), (("has", "sub", 0, 5, 6), yes, no)), ((("has", "add", 0, 5, 6), yes, no), (("has", "add", 3, 5, 6), yes, no)),
            ((("set", 0, 5, 6), yes, no), (("set", 0, 6, 5), yes, no)), ((("jump", 4),), (yes,)), ((("jump", 5), yes), (("jump", 5), no)),
            (asks(("ask", "add", (0, 1), 0)), asks(("ask", "add", (0, 0), 0))), (asks(("ask", "add", (0, 1), 0)), asks(("ask", "sub", (0, 1), 0))),
        ):
            first, second = code(*one), code(*other)
            for left, right in ((first, second), (second, first)):
                book = compare(left, right)
                self.assertEqual(len(book), 1, (one, other))
                self.assertTrue(parts_on(left, right, book))
            self.assertIsNone(compare(first, code(*one)))
        first, second = code(*asks(("ask", "add", (0, 1), 0))), code(*asks(("ask", "add", (0, 1), 1)))
        self.assertEqual(len(compare(first, second)), 2)
        self.assertIsNone(compare(code(yes), code(("jump", 5), ("jump", 6), yes)))

    def test_look_ups_that_lead_on_both_ways(self):
        """Rows that look up a method and go on with the same row either way."""
        def code(*goals):
            rows = [("has", method, 0, at + 1, at + 1) for at, method in enumerate(("add", "sub", "mul", "neg"))]
            return Code(1, (*rows, ("has", goals[0], 0, 5, 6), ("end", "returns", "True", ()), ("end", "returns", "False", ())))

        self.assertIsNone(compare(code("add"), code("add")))
        book = compare(code("add"), code("neg"))
        self.assertEqual(len(book), 0)
        self.assertTrue(parts_on(code("add"), code("neg"), book))
        self.assertEqual([vow for vow in (("bare", "add"), ("has", "add"), ("calm", "add")) if is_alike(code("add"), code("neg"), (vow,))], [])
        self.assertIsNone(compare(code("add"), code("neg"), (("bare", "add"), ("bare", "neg"))))
        self.assertIsNone(compare(code("add"), code("neg"), (("has", "add"), ("has", "neg"))))

    def test_slots_that_an_answer_leaves(self):
        """What a call would tell is put nowhere if it declines, so the slot is wanted ahead of it."""
        def code(end):
            goals = (("declines", 2), ("raises", 3), ("tells", 3))
            return Code(2, (("has", "eq", 0, 1, 3), ("ask", "eq", (0, 0), 1, goals), end, ("end", "returns", "None", ())))

        one, other = code(("end", "returns", 1, ())), code(("end", "returns", "None", ()))
        for book in (compare(one, other), compare(other, one)):
            self.assertEqual([answer for _, answer in book.moments], [("declines",)])
            self.assertTrue(parts_on(one, other, book))
        self.assertIsNone(compare(one, code(("end", "returns", 1, ()))))
        self.assertIsNone(compare(one, other, (("takes", "eq"),)))
        # The same thing, held in another slot ahead of the call.
        goals = (("declines", 3), ("raises", 4), ("tells", 4))
        moved = Code(2, (("move", 2, 1), ("has", "eq", 0, 2, 4), ("ask", "eq", (0, 0), 1, goals), ("end", "returns", 2, ()), ("end", "returns", "None", ())))
        self.assertIsNone(compare(one, moved))
        self.assertEqual(len(compare(other, moved)), 1)
        self.assertEqual(one(Book((0, 1), (((), ("declines",)),)))[1], ("returns", 1, ()))

    def test_look_ups_in_another_order(self):
        """Both look up two methods, the one in the other order; they part by one outcome of both at most."""
        def code(methods, ends):
            first, second = methods
            return Code(1, (("has", first, 0, 1, 2), ("has", second, 0, 3, 4), ("has", second, 0, 5, 6), *[("end", "returns", word, ()) for word in ends]))

        words = ("None", "True", "False", "TypeError")
        one = code(("add", "sub"), words)
        self.assertIsNone(compare(one, code(("sub", "add"), (words[0], words[2], words[1], words[3]))))
        for at in range(4):
            ends = [words[0], words[2], words[1], words[3]]
            ends[at] = "ValueError"
            other = code(("sub", "add"), ends)
            for left, right in ((one, other), (other, one)):
                book = compare(left, right)
                self.assertEqual((len(book), sorted(book.lacking)), (0, [[], [("sub", 0)], [("add", 0)], [("add", 0), ("sub", 0)]][[0, 2, 1, 3][at]]))
                self.assertTrue(parts_on(left, right, book))

    def test_look_ups_on_one_way_alone(self):
        """The one looks up the second method on one way alone, the other one always."""
        ends = [("end", "returns", word, ()) for word in ("None", "True", "False", "TypeError")]
        one = Code(1, (("has", "add", 0, 1, 4), ("has", "sub", 0, 2, 3), *ends[:3]))
        same = Code(1, (("has", "sub", 0, 1, 2), ("has", "add", 0, 3, 5), ("has", "add", 0, 4, 5), *ends[:3]))
        other = Code(1, (("has", "sub", 0, 1, 2), ("has", "add", 0, 3, 6), ("has", "add", 0, 4, 5), *ends))
        for first, second in ((one, same), (same, one)):
            self.assertIsNone(compare(first, second))
        for first, second in ((one, other), (other, one)):
            book = compare(first, second)
            self.assertEqual((len(book), book.lacking), (0, (("add", 0),)))
            self.assertTrue(parts_on(first, second, book))

    def test_many_look_ups_at_one_moment(self):
        """However many things are looked up without a call, it is no going on for ever."""
        tests = "not x\n" * 60
        one, other = whole(tests + "return x"), whole(tests + "return y")
        self.check(0, one, other, (("bare", "bool"), ("bare", "len")), brute=0)
        self.check(None, one, whole(tests + "return x"), (("bare", "bool"), ("bare", "len")), brute=0)
        lone = Book.read("begin 0 1\nbool:0 len:0")
        self.assertEqual([piece(lone)[1] for piece in (one, other, compiled(one))], [("returns", 0, ()), ("returns", 1, ()), ("returns", 0, ())])
        moves = "z = x\n" * 60
        self.check(0, whole(moves + "return z"), whole(moves + "return y"), brute=0)
        self.assertEqual(whole(moves + "return z")(Book.read("begin 0 1"))[1], ("returns", 0, ()))

    def test_pieces_and_their_codes(self):
        for seed in range(250):
            piece = random_piece(random.Random(seed), deep=2, many=2)
            if len(piece) <= 9:
                self.assertIsNone(compare(piece, compiled(piece)), seed)
                self.assertIsNone(compare(compiled(piece), piece), seed)


class PromisesTest(Comparing):
    # A word, promises beside it, and two texts that are alike with it, but not without it.
    WORDS = (
        ("bare iadd", "", "x += y\nreturn x", "x = x + y\nreturn x"), ("bare radd", "bare add", "x + y", "raise None"),
        ("has neg", "calm neg", "-x", "try:\n -x\nexcept:\n pass"), ("calm neg", "has neg", "-x", "try:\n -x\nexcept:\n pass"),
        ("takes add", "has add, calm add", "x + y", "try:\n x + y\nexcept:\n return x"), ("itself neg", "", "return -x", "-x\nreturn x"),
        ("itself call", "", "x()()", "x()\nx()"), ("itself iadd", "bare add, bare radd", "x += y\nreturn x", "z = x\nx += y\nreturn z"),
        ("truth eq", "", "return x == y", "return not not x == y"), ("truth ge", "truth le", "return x >= y", "return not not x >= y"),
        ("truth lt", "truth gt", "return x < y", "return True if x < y else False"),
        ("bare contains", "bare iter", "return x in y", "raise None"),
        ("bare bool", "bare len", "while x:\n pass", "while True:\n pass"), ("bare ne", "truth eq", "return x != y", "return not x == y"),
        ("has getattr", "calm getattr", "return x.w", "try:\n return x.w\nexcept:\n pass"), ("calm setitem", "has setitem", "x[y] = y", "try:\n x[y] = y\nexcept:\n x()"),
        ("has next", "calm next, has iter, calm iter", "for z in x:\n pass", "try:\n for z in x:\n  pass\nexcept:\n pass"),
        ("calm next", "has next, has iter, calm iter", "for z in x:\n pass", "try:\n for z in x:\n  pass\nexcept:\n pass"),
    )

    def test_each_word(self):
        for word, beside, text, other in self.WORDS:
            one, two = whole(text), whole(other)
            vows = tuple(Promises.read(beside))
            least = compare(one, two, vows)
            self.assertIsNotNone(least, (word, text, other))
            self.check(len(least), one, two, vows, brute=1)
            self.check(None, one, two, vows + tuple(Promises.read(word)), brute=2)
        self.assertEqual({word.split()[0] for word, _, _, _ in self.WORDS}, {"bare", "has", "calm", "takes", "itself", "truth"})

    def test_books_keep_promises(self):
        one, other = whole("x += y\nreturn x"), whole("x -= y\nreturn x")
        for text in ("", "bare iadd, bare isub", "bare iadd, bare isub, bare add, bare sub", "has iadd", "has isub", "bare iadd, has add, bare isub, bare sub"):
            self.check(0, one, other, tuple(Promises.read(text)), brute=0)
        self.check(None, one, other, tuple(Promises.read("bare iadd, bare isub, bare add, bare sub, bare radd, bare rsub")))

    def test_longer_under_promises(self):
        """Promises make what is alike stay alike, and the least book longer."""
        one, other = whole("x += y\nreturn x"), whole("x = x + y\nreturn x")
        self.check(0, one, other, (("has", "iadd"),))
        three = whole("x()\nx += y\nreturn x")
        self.check(1, three, whole("x()\nx = x + y\nreturn x"), (("has", "call"), ("calm", "call")))
        for seed in range(40):
            dice = random.Random(seed)
            first, second = near_pieces(dice)
            vows, least = [], -1
            for _ in range(4):
                vow = (dice.choice(("bare", "has", "calm")), dice.choice(METHODS))
                try:
                    Promises((*vows, vow))
                except InvalidPromise:
                    continue
                vows.append(vow)
                book = compare(first, second, tuple(vows))
                if least is None:
                    self.assertIsNone(book)
                elif book is not None:
                    self.assertGreaterEqual(len(book), least)
                least = None if book is None else len(book)


class ErrorsTest(unittest.TestCase):
    def test_other_shapes(self):
        pieces = [Piece.read(f"params{params}\n{kept}pass") for params in ("", " x", " x y") for kept in ("", "kept\n", "kept x\n", "kept x y\n")]
        for one in pieces:
            for other in pieces:
                for first, second in ((one, other), (compiled(one), other), (one, compiled(other)), (compiled(one), compiled(other))):
                    if one.shape != other.shape:
                        for act in (lambda: compare(first, second), lambda: is_alike(first, second), lambda: compare(first, second, (None,)),
                                    lambda: is_alike(first, second, ("x", "y")), lambda: parts_on(first, second, Book((0, 1, 2, 3, 4)))):
                            with self.assertRaises(OtherShape):
                                act()
                    else:
                        self.assertIsNone(compare(first, second))

    def test_promises_that_are_none(self):
        one = Piece.read("params x\npass")
        for at, pairs in ((0, (None,)), (1, (("bare", "add"), ("has", "add"))), (1, [("bare", "add"), ("bare", "x")]), (0, (("truth", "add"),))):
            for act in (lambda: compare(one, one, pairs), lambda: is_alike(one, one, promises=pairs)):
                with self.assertRaises(InvalidPromise) as caught:
                    act()
                self.assertEqual(caught.exception.at, at)


class PartsOnTest(unittest.TestCase):
    def test_parting(self):
        one, other = whole("x()\nreturn -x"), whole("x()\nreturn -y")
        for text, parts in (("begin 0 1", False), ("begin 0 1\ncall:0", False), ("begin 0 0\ntells 0", False), ("begin 0 1\ntells 0", True), ("begin 0 1\nraises 2", False),
                            ("begin 0 1\nraises 2\nno", False), ("begin 0 1\ntells 0\nneg:0 neg:1", False), ("begin 0 1\ntells 0\nneg:0", True),
                            # Behind a parting or an end nothing is looked at.
                            ("begin 0 1\ntells 0\nstop\nyes", True), ("begin 0 1\ntells 0\nneg:0 neg:1 stop\ndone", False), ("begin 0 1\ncall:0 stop\nno", False),
                            ("begin 0 1\ntells 0\nneg:1 stop", True), ("begin 0 0\ntells 1\ntells 2\nstop", False)):
            for first, second in ((one, other), (other, one), (compiled(one), other), (compiled(one), compiled(other))):
                told = parts_on(first, second, Book.read(text))
                self.assertIs(told, parts, text)
        self.assertFalse(parts_on(one=one, other=one, book=Book((0, 1))))

    def test_ends(self):
        for text, other, parts in (("return x", "return x", False), ("return x", "return y", True), ("return x", "raise x", True), ("pass", "return None", False),
                                   ("while True:\n pass", "while True:\n x = y", False), ("while True:\n pass", "pass", True), ("-x", "pass", True)):
            self.assertEqual(parts_on(whole(text), whole(other), Book((0, 1))), parts)
        one, other = (Piece.read(f"params x y\nkept x\n{text}") for text in ("x = y", "pass"))
        self.assertFalse(parts_on(one, other, Book((0, 0))))
        self.assertTrue(parts_on(one, other, Book((0, 1))))
        self.assertTrue(parts_on(one, other, Book(("unset", "unset"))))
        self.assertFalse(parts_on(one, other, Book(("TypeError", "TypeError"))))

    def test_errors(self):
        one, other = whole("x()\nreturn -x"), whole("x()\nreturn -y")
        for word, at, text in (("begin", 2, "begin 0 1 2"), ("begin", 1, "begin 0"), ("begin", 1, "begin 0 unset"), ("begin", 0, "begin None 0"),
                               ("answer", 0, "begin 0 1\nstop"), ("answer", 0, "begin 0 1\ntells True"), ("answer", 1, "begin 0 0\ntells 1\nno")):
            with self.assertRaises(InvalidBook) as caught:
                parts_on(one, other, Book.read(text))
            self.assertEqual((caught.exception.word, caught.exception.at), (word, at), text)


def near_pieces(dice):
    """Two pieces of one shape that differ in few statements."""
    params, kept = dice.choice((("x",), ("x", "y"))), dice.choice((None, None, ("x",)))
    maker = Maker(dice, ("x", "y"))
    rows = maker.body(dice.choice((0, 0, 1)), False, False, 2)
    changed = list(rows)
    at = dice.randrange(len(rows))
    changed[at:at + dice.choice((0, 1))] = maker.body(0, False, False, 1)
    return Piece(params, rows, kept), Piece(params, tuple(changed), kept)


class RandomTest(Comparing):
    def test_like_all_books(self):
        """What is told is so for all books that are not too long, gone through one after the other."""
        for seed in range(400):
            dice = random.Random(seed)
            one, other = near_pieces(dice)
            vows = ()
            if dice.random() < 0.5:
                pairs = [(dice.choice(("bare", "has", "calm", "takes", "itself", "truth")), dice.choice(METHODS)) for _ in range(3)]
                vows = tuple(pair for pair in pairs if is_right(pair)) and tuple({pair[1]: pair for pair in pairs if is_right(pair)}.values())
            brute = 1 if one.kept is not None else 2
            least = compare(one, other, vows)
            shortest = least_parting(one, other, brute, vows)
            if least is None or len(least) > brute:
                self.assertIsNone(shortest, (seed, str(one), str(other), vows))
            else:
                self.assertEqual(shortest, len(least), (seed, str(one), str(other), vows))
            if least is not None:
                self.check_book(one, other, least, vows)

    def test_same_results(self):
        for seed in range(30):
            one, other = near_pieces(random.Random(seed))
            before = (str(one), str(other))
            self.assertEqual(compare(one, other), compare(one, other))
            self.assertEqual((str(one), str(other)), before)


def is_right(pair):
    try:
        Promises((pair,))
    except InvalidPromise:
        return False
    return True


class BigTest(unittest.TestCase):
    """As many statements, loops and names as there may be."""

    LOOPS = "for d in a:\n for e in b:\n  a, b = b, d\n  c += e\n  if a == c:\n   b = c\nreturn a + b"
    RENAMED = "for e in a:\n for d in b:\n  a, b = b, e\n  c += d\n  if a == c:\n   b = c\nreturn a + b"

    def test_alike(self):
        one, other = (Piece.read(f"params a b c\n{text}") for text in (self.LOOPS, self.RENAMED))
        self.assertIsNone(compare(one, other))
        twice = Piece.read("params a b c\n" + self.LOOPS.replace("  a, b = b, d\n", "  a = b\n  b = d\n"))
        self.assertIsNone(compare(one, twice))

    def test_unlike(self):
        one = Piece.read(f"params a b c\n{self.LOOPS}")
        other = Piece.read("params a b c\n" + self.RENAMED.replace("b = c\n", "b = e\n"))
        book = compare(one, other)
        self.assertTrue(parts_on(one, other, book))
        self.assertEqual(one(book)[0], other(book)[0])
        self.assertGreater(len(book), 6)

    def test_part(self):
        text = "params a b c\nkept a b c\nfor a in b:\n with c as b:\n  c = a()\n  if a < b < c:\n   continue\n  b += a"
        self.assertIsNone(compare(Piece.read(text), Piece.read(text.replace("a < b < c", "a < b and b < c"))))
        self.assertEqual(len(compare(Piece.read(text), Piece.read(text.replace("b += a", "a += b")))), 5)


if __name__ == "__main__":
    unittest.main()
