"""Pieces: [1], [2] and [5] to [8]."""

import random
import unittest

from helper import random_piece
from pieceasks.errors import InvalidPiece, NoPlace, OtherShape
from pieceasks.pieces import Piece

X = "x"
PASS = ("pass",)

EXPRESSIONS = [
    "x", "abcdef", ("None",), ("True",), ("False",),
    ("+", X, X), ("-", X, X), ("*", X, X), ("neg", X),
    ("not", X), ("and", X, X), ("or", X, X),
    ("item", X, X), ("attr", X, "w"), ("attr", ("None",), "x"),
    ("call", X, ()), ("call", X, (X,)), ("call", X, (X, ("None",))),
    ("if", X, X, X), (":=", "y", X),
    ("+", ("*", ("neg", X), (":=", "y", ("None",))), ("call", ("attr", X, "w"), (("item", X, X),))),
] + [("compare", op, X, X) for op in ("==", "!=", "<", "<=", ">", ">=", "in", "not in", "is", "is not")
] + [("chain", op, X, other, X, X) for op in ("==", "!=", "<", "<=", ">", ">=") for other in ("==", ">=")]

NO_EXPRESSIONS = [
    "", "X", "xyzabcd", "x1", "x y", "é", "_", "if", "kept", "params", "not", "None",
    None, True, False, 0, 1, [], ["x"], (), (X,), ("x", "y"), ((),), ([],), (["+"], X, X), (None,), (0,),
    ("None", X), ("True", ()), ["None"], ("none",), ("NameError",),
    ("+",), ("+", X), ("+", X, X, X), ("+", X, None), ("+", "if", X), ["+", X, X], ("+", [X], X), ("/", X, X),
    ("neg",), ("neg", X, X), ("neg", "and"), ("not",), ("not", X, X), ("and", X), ("or", X, 1),
    ("compare", "==", X), ("compare", "=", X, X), ("compare", X, X), ("compare", None, X, X),
    ("compare", ["=="], X, X), ("compare", "not  in", X, X), ("compare", "==", X, ()),
    ("chain", "<", X, "<", X), ("chain", "in", X, "<", X, X), ("chain", "<", X, "is", X, X),
    ("chain", "<", X, "<", X, True), ("chain", "<", X, "<", X, X, X),
    ("item", X), ("item", X, X, X), ("item", X, (X, X)), ("attr", X), ("attr", X, ("None",)),
    ("attr", X, "if"), ("attr", X, ".w"), ("attr", X, X, X),
    ("call", X), ("call", X, X), ("call", X, [X]), ("call", X, (X, X, X)), ("call", X, (None,)),
    ("call", X, X, X), ("call", (), ()), ("if", X, X), ("if", X, X, X, X), ("if", X, X, ()),
    (":=", X), (":=", ("attr", X, "w"), X), (":=", "del", X), (":=", X, X, X), (":=", X, 0),
    ("set", X, X), ("pass",), ("+", X, ("pass",)),
]

TARGETS = ["x", "yz", ("item", X, X), ("attr", X, "w"), ("attr", ("call", X, ()), "w"), ("item", ("None",), X)]
NO_TARGETS = [
    "if", "toolong", "", 1, [], (), ("None",), ("call", X, ()), ("neg", X), (":=", X, X), (X, X), ["item", X, X],
    ("item", X), ("attr", X, "for"), ("attr", X),
]

# A statement for each form, with E, T, B and O where an expression, a target or a body stands.
STATEMENTS = [
    ("set", "T", "E"), ("take", ("T", "T"), "E"), ("swap", ("T", "T"), ("E", "E")),
    ("aug", "+", "T", "E"), ("aug", "-", "T", "E"), ("aug", "*", "T", "E"), ("del", "T"), ("do", "E"),
    ("if", "E", "B", "O"), ("while", "E", "B", "O"), ("for", "T", "E", "B", "O"), PASS,
    ("with", "E", "T", "B"), ("with", "E", None, "B"), ("except", "B", "x", "B"), ("except", "B", None, "B"),
    ("finally", "B", "B"), ("raise", "E"), ("return", "E"),
]
PLAIN = {"E": "x", "T": "x", "B": (PASS,), "O": ()}


def filled(form):
    """A right statement of a form."""
    return tuple(tuple(PLAIN[x] for x in part) if isinstance(part, tuple)
                 else PLAIN[part] if isinstance(part, str) and part in PLAIN else part for part in form)


def variants(form, letter, value):
    """Statements of a form, each with the value in one of the places of a letter."""
    right = filled(form)
    for at, part in enumerate(form):
        if part == letter:
            yield right[:at] + (value,) + right[at + 1:]
        elif isinstance(part, tuple):
            for inner, one in enumerate(part):
                if one == letter:
                    pair = right[at][:inner] + (value,) + right[at][inner + 1:]
                    yield right[:at] + (pair,) + right[at + 1:]


NO_STATEMENTS = [
    None, True, 0, "", "x", "pass", [], ["pass"], (), (X,), ((),), (["pass"],), ("none",), ("+", X, X), ("None",),
    ("pass", X), ("pass", ()), ("break", X), ("continue", ()), ("return",), ("raise",), ("return", X, X),
    ("set", X), ("set", X, X, X), ("set", (X, X), X), ("take", X, X), ("take", (X,), X), ("take", (X, X, X), X),
    ("take", [X, X], X), ("take", (X, X)), ("swap", (X, X), X), ("swap", (X, X), (X,)), ("swap", (X, X), (X, X, X)),
    ("swap", [X, X], (X, X)), ("swap", (X, X), [X, X]), ("swap", X, X), ("aug", "/", X, X), ("aug", "+-", X, X),
    ("aug", "", X, X), ("aug", "+=", X, X), ("aug", None, X, X), ("aug", ["+"], X, X), ("aug", "+", X), ("aug", X, X),
    ("aug", "+", (X, X), X), ("del",), ("del", X, X), ("do",), ("do", X, X),
    ("if", X, (PASS,)), ("if", X, (), ()), ("if", X, [PASS], ()), ("if", X, (PASS,), []), ("if", X, (PASS,), None),
    ("if", X, PASS[0], ()), ("while", X, (PASS,)), ("while", X, (), (PASS,)), ("while", X, (PASS,), [PASS]),
    ("for", X, X, (PASS,)), ("for", X, X, (), ()), ("for", X, X, [PASS], ()), ("for", (X, X), X, (PASS,), ()),
    ("for", X, X, (PASS,), (), ()), ("with", X, (PASS,)), ("with", X, None, ()), ("with", X, False, (PASS,)),
    ("with", X, "", (PASS,)), ("with", X, None, [PASS]), ("with", X, (X, X), (PASS,)),
    ("except", (PASS,), (PASS,)), ("except", (), None, (PASS,)), ("except", (PASS,), None, ()),
    ("except", (PASS,), ("attr", X, "w"), (PASS,)), ("except", (PASS,), False, (PASS,)),
    ("except", (PASS,), "as", (PASS,)), ("except", [PASS], None, (PASS,)), ("except", (PASS,), None, (PASS,), ()),
    ("finally", (PASS,)), ("finally", (), (PASS,)), ("finally", (PASS,), ()), ("finally", (PASS,), None),
    ("finally", [PASS], (PASS,)), ("finally", (PASS,), (PASS,), ()),
]


class FormTest(unittest.TestCase):
    def fails(self, word, at, *args, **more):
        with self.assertRaises(InvalidPiece) as caught:
            Piece(*args, **more)
        self.assertEqual((caught.exception.word, caught.exception.at), (word, at), args)

    def test_expressions(self):
        for value in EXPRESSIONS:
            piece = Piece((), (("do", value),))
            self.assertEqual(piece.body, (("do", value),))
            self.assertEqual(Piece.read(str(piece)), piece)

    def test_no_expressions(self):
        for value in NO_EXPRESSIONS:
            self.fails("form", 0, ("x",), (("do", value),))
            self.fails("form", 1, ("x",), (PASS, ("do", ("+", ("neg", X), ("call", X, (X, value)))), PASS))

    def test_each_place_of_an_expression(self):
        for value in EXPRESSIONS:
            for at, part in enumerate(value):
                if at > 0 and part == X and value[0] not in ("attr", ":="):
                    wrong = value[:at] + (("neg", None),) + value[at + 1:]
                    self.fails("form", 0, (), (("do", wrong),))

    def test_statements(self):
        for form in STATEMENTS:
            for letter, values in (("E", EXPRESSIONS), ("T", TARGETS), ("O", [(), (PASS,), (PASS, PASS)])):
                for value in values:
                    for row in variants(form, letter, value):
                        piece = Piece(("x",), (row,))
                        self.assertEqual(piece.body, (row,))
                        self.assertEqual(piece[0], row)
                        self.assertEqual(Piece.read(str(piece)), piece)

    def test_no_statements(self):
        for row in NO_STATEMENTS:
            self.fails("form", 0, (), (row,))
            self.fails("form", 3, ("x",), (PASS, ("if", X, (PASS, row), ()), PASS))
        for form in STATEMENTS:
            self.fails("form", 0, (), (filled(form) + (X,),))
            self.fails("form", 0, (), (filled(form)[:-1] or ("",),))
            for letter, values in (("E", NO_EXPRESSIONS), ("T", NO_TARGETS), ("B", ((), [PASS], X, None, 1)),
                                   ("O", ([], X, None, 0))):
                for value in values:
                    for row in variants(form, letter, value):
                        self.fails("form", 0, (), (row,))

    def test_bodies_are_looked_at_later(self):
        # Of a statement with bodies it alone is looked at; what stands in them has places of its own.
        row = ("if", X, (5, ("break",)), ("y",))
        self.fails("form", 1, (), (row,))
        self.fails("form", 3, (), (("if", X, (PASS, PASS), ("y",)),))
        self.fails("form", 0, (), (("if", "if", (5,), ()),))
        deep = ((((((((((("x",),),),),),),),),),),)
        self.fails("form", 0, (), (deep,))
        self.fails("form", 1, (), (("while", X, (deep, 1), (deep,)),))

    def test_names(self):
        self.fails("param", 0, ("",), ())
        self.fails("param", 1, ("x", "if", "if"), (PASS,))
        self.fails("param", 2, ("x", "y", "x", 1), (PASS,))
        self.fails("param", 0, ("abcdefg",), (PASS,))
        self.fails("param", 0, ("X",), (PASS,))
        self.fails("param", 1, ("x", None), (PASS,))
        self.fails("param", 1, ["x", ["x"]], (PASS,))
        self.fails("kept", 0, ("x",), (PASS,), ("kept",))
        self.fails("kept", 1, ("x",), (PASS,), ("x", "x"))
        self.fails("kept", 2, ("x",), (PASS,), ["x", "y", 3])
        self.assertEqual(Piece(("x",), (PASS,), ("x", "z")).kept, ("x", "z"))

    def test_body(self):
        self.fails("body", 0, (), ())
        self.fails("body", 0, ("x",), [], ("x",))

    def test_order_of_errors(self):
        self.fails("param", 0, ("1",), (), ("1",))
        self.fails("kept", 0, ("x",), (), ("1",))
        self.fails("body", 0, ("x",), (), ("y",))
        self.fails("form", 0, (), (5, ("break",)))
        self.fails("loose", 0, (), (("break",), 5))
        self.fails("form", 0, (), (("break", 1),))
        self.fails("loose", 1, (), (("if", X, (("continue",),), (5,)), 6))
        self.fails("form", 1, (), (PASS, ("if", X, (("continue",),), 5)))

    def test_loose(self):
        for word in ("break", "continue"):
            leave = ((word,),)
            self.fails("loose", 0, (), leave)
            self.fails("loose", 1, (), (("with", X, None, leave),))
            self.fails("loose", 1, (), (("except", leave, None, (PASS,)),))
            self.fails("loose", 2, (), (("finally", (PASS,), leave),))
            for loop in (("while", X), ("for", X, X)):
                Piece((), (loop + (leave, ()),))
                Piece((), (loop + ((("if", X, leave, leave),), ()),))
                Piece((), (loop + ((("finally", leave, (PASS,)),), ()),))
                Piece((), (loop + ((loop + (leave, leave),), ()),))
                Piece((), (("finally", (PASS,), (loop + (leave, ()),)),))
                # The `other` of a loop does not lie within it.
                self.fails("loose", 2, (), (loop + ((PASS,), leave),))
                self.fails("loose", 4, (), (loop + ((loop + (leave, ()),), (("if", X, leave, ()),)),))
                # Nor does a last body within a loop around its statement.
                self.fails("loose", 3, (), (loop + ((("finally", (PASS,), leave),), ()),))
                self.fails("loose", 4, (), (("finally", (PASS,), (loop + ((PASS,), leave),)),))

    def test_loose_return(self):
        back = (("return", X),)
        Piece((), back)
        Piece((), (("finally", back, (PASS,)),))
        Piece((), (("while", X, back, back),))
        self.fails("loose", 2, (), (("finally", (PASS,), back),))
        self.fails("loose", 3, (), (("finally", (PASS,), (("while", X, back, ()),)),))
        self.fails("loose", 4, (), (("finally", (PASS,), (("except", (PASS,), None, back),)),))
        self.fails("loose", 3, (), (("finally", (PASS,), (("finally", back, (PASS,)),)),))
        self.fails("form", 2, (), (("finally", (PASS,), (("return",),)),))


class PieceTest(unittest.TestCase):
    def setUp(self):
        self.inner = ("if", X, (PASS, ("set", "y", X)), (("do", "z"),))
        self.loop = ("for", "a", X, (self.inner,), (("del", "b"),))
        self.piece = Piece(("x",), (self.loop, ("return", ("attr", "c", "w"))))

    def test_places(self):
        rows = [self.loop, self.inner, PASS, ("set", "y", X), ("do", "z"), ("del", "b"),
                ("return", ("attr", "c", "w"))]
        self.assertEqual(list(self.piece), rows)
        self.assertEqual(len(self.piece), 7)
        self.assertEqual([self.piece[at] for at in range(7)], rows)
        self.assertEqual([at for at in range(-8, 9) if at in self.piece], list(range(7)))
        for at in (-1, -7, 7, 8, 10 ** 30, -10 ** 30):
            self.assertNotIn(at, self.piece)
            with self.assertRaises(NoPlace) as caught:
                self.piece[at]
            self.assertEqual(caught.exception.at, at)

    def test_places_of_all_bodies(self):
        def body(name):
            return (("do", name),)
        rows = (("while", X, body("a"), body("b")), ("with", X, X, body("c")), ("except", body("d"), None, body("e")),
                ("finally", body("f"), body("g")))
        piece = Piece((), rows)
        self.assertEqual([row[0] if row in rows else row[1] for row in piece],
                         ["while", "a", "b", "with", "c", "except", "d", "e", "finally", "f", "g"])

    def test_properties(self):
        part = Piece(("y", "x"), (("set", "x", ("attr", "y", "w")),), ("x", "kk"))
        self.assertEqual((part.params, part.kept, part.shape), (("y", "x"), ("x", "kk"), (2, 2)))
        self.assertEqual(part.body, (("set", "x", ("attr", "y", "w")),))
        self.assertEqual(part.names, ("kk", "x", "y"))
        self.assertEqual((self.piece.kept, self.piece.shape), (None, (1, None)))
        self.assertEqual(self.piece.names, ("a", "b", "c", "x", "y", "z"))
        self.assertEqual(Piece((), (PASS,), ()).shape, (0, 0))
        self.assertEqual(Piece((), (PASS,), ()).kept, ())
        self.assertEqual(Piece((), (PASS,)).names, ())
        with self.assertRaises(AttributeError):
            part.params = ()

    def test_all_names(self):
        rows = (("take", ("a", ("item", "b", "c")), "d"), ("swap", ("e", "f"), ("g", "h")), ("aug", "+", "i", "j"),
                ("with", "k", "l", (PASS,)), ("except", (PASS,), "m", (("raise", "n"),)),
                ("do", ("chain", "<", "o", "<", "p", (":=", "q", ("call", "r", ("s", "t"))))),
                ("do", ("if", "u", "v", ("compare", "in", "w", ("attr", "x", "w")))))
        self.assertEqual("".join(Piece(("y",), rows, ("z",)).names), "abcdefghijklmnopqrstuvwxyz")

    def test_equality(self):
        rows = (("set", "x", "y"),)
        piece = Piece(("x", "y"), rows)
        self.assertTrue(piece == Piece(["x", "y"], list(rows)))
        self.assertFalse(piece != Piece(("x", "y"), rows, None))
        for other in (Piece(("y", "x"), rows), Piece(("x",), rows), Piece(("x", "y"), rows + rows),
                      Piece(("x", "y"), rows, ()), Piece(("x", "y"), rows, ("x",)), rows, list(rows),
                      str(piece), None, True, (("x", "y"), rows), 1):
            self.assertTrue(piece != other)
            self.assertFalse(piece == other)
        self.assertFalse(Piece((), (PASS,), ("x", "y")) == Piece((), (PASS,), ("y", "x")))

    def test_lists_changed_later(self):
        params, rows, kept = ["x"], [PASS], ["x"]
        piece = Piece(params, rows, kept)
        for values in (params, rows, kept):
            values.append("y")
        more = [PASS]
        longer = piece + more
        ahead = more + piece
        more.append(5)
        self.assertEqual((piece.params, piece.body, piece.kept), (("x",), (PASS,), ("x",)))
        self.assertEqual((len(piece), len(longer), len(ahead)), (1, 2, 2))

    def test_arguments_by_name(self):
        self.assertEqual(Piece(body=(PASS,), kept=("x",), params=()), Piece((), (PASS,), ("x",)))
        self.assertEqual(Piece.read(text="params\npass"), Piece(params=(), body=(PASS,)))
        self.assertTrue(Piece.is_name(text="x"))

    def test_sums(self):
        one = Piece(("x",), (PASS,), ("y",))
        other = Piece(["x"], [("del", "x"), PASS], ["y"])
        self.assertEqual(one + other, Piece(("x",), (PASS, ("del", "x"), PASS), ("y",)))
        self.assertEqual(other + one, Piece(("x",), (("del", "x"), PASS, PASS), ("y",)))
        for rows in (((("do", "x")),), [("do", "x")]):
            self.assertEqual(one + rows, Piece(("x",), (PASS, ("do", "x")), ("y",)))
            self.assertEqual(rows + one, Piece(("x",), (("do", "x"), PASS), ("y",)))
        self.assertEqual(one + (), one)
        self.assertEqual([] + one, one)
        self.assertEqual(one, Piece(("x",), (PASS,), ("y",)))
        whole = one = Piece((), (PASS,))
        one += (("do", "x"),)
        self.assertEqual((len(whole), len(one)), (1, 2))

    def test_sums_of_other_shapes(self):
        one = Piece(("x", "y"), (PASS,), ("y", "x"))
        for other in (Piece(("y", "x"), (PASS,), ("y", "x")), Piece(("x", "y"), (PASS,), ("x", "y")),
                      Piece(("x", "y"), (PASS,)), Piece(("x",), (PASS,), ("y", "x")), Piece(("x", "y"), (PASS,), ())):
            with self.assertRaises(OtherShape):
                one + other
            with self.assertRaises(OtherShape):
                other + one

    def test_sums_with_wrong_rows(self):
        one = Piece((), (("if", X, (PASS,), ()),))
        for rows in ((5,), [5], (("return",),)):
            with self.assertRaises(InvalidPiece) as caught:
                one + rows
            self.assertEqual((caught.exception.word, caught.exception.at), ("form", 2))
            with self.assertRaises(InvalidPiece) as caught:
                rows + one
            self.assertEqual((caught.exception.word, caught.exception.at), ("form", 0))
        with self.assertRaises(InvalidPiece) as caught:
            one + [("break",)]
        self.assertEqual((caught.exception.word, caught.exception.at), ("loose", 2))
        for wrong in (5, None, "x"):
            with self.assertRaises(TypeError):
                one + wrong

    def test_is_name(self):
        for text in ("a", "z", "abcdef", "none", "true", "self", "add", "unset", "iff", "nott"):
            self.assertIs(Piece.is_name(text), True)
        reserved = ("and or not in is if else while for with as try except return raise break pass del "
                    "params kept").split()
        for text in reserved + ["", "A", "None", "abcdefg", "finally", "continue", "a1", "a b", "a\n", "a_", " a"]:
            self.assertIs(Piece.is_name(text), False)

    def test_methods_stand_in_the_class(self):
        for name in ("read", "is_name", "__len__", "__getitem__", "__contains__", "__iter__", "__add__",
                     "__radd__", "__eq__", "__str__", "params", "kept", "body", "shape", "names"):
            self.assertIn(name, Piece.__dict__)

    def test_sums_of_random_pieces(self):
        for seed in range(200):
            piece = random_piece(random.Random(seed))
            whole = Piece(piece.params, (PASS,), piece.kept)
            self.assertEqual(list(whole + piece), [PASS] + list(piece))
            self.assertEqual(piece.body + whole, Piece(piece.params, piece.body + (PASS,), piece.kept))
            self.assertEqual(set(piece.names) - set(piece.params) - set(piece.kept or ()),
                             set(Piece((), piece.body).names) - set(piece.params) - set(piece.kept or ()))


if __name__ == "__main__":
    unittest.main()
