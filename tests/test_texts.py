"""Texts of pieces: [9] to [11]."""

import ast
import random
import re
import unittest

from helper import Maker, random_piece
from pieceasks.errors import InvalidPiece, InvalidText
from pieceasks.pieces import Piece

X = "x"
PASS = ("pass",)

# Expressions with their texts.
TEXTS = [
    ("x", "x"), (("None",), "None"), (("True",), "True"), (("False",), "False"),
    (("+", "x", "y"), "x + y"), (("-", "x", "y"), "x - y"), (("*", "x", "y"), "x * y"), (("neg", "x"), "-x"),
    (("compare", "==", "x", "y"), "x == y"), (("compare", "!=", "x", "y"), "x != y"),
    (("compare", "<", "x", "y"), "x < y"), (("compare", "<=", "x", "y"), "x <= y"),
    (("compare", ">", "x", "y"), "x > y"), (("compare", ">=", "x", "y"), "x >= y"),
    (("compare", "in", "x", "y"), "x in y"), (("compare", "not in", "x", "y"), "x not in y"),
    (("compare", "is", "x", "y"), "x is y"), (("compare", "is not", "x", "y"), "x is not y"),
    (("chain", "<", "x", "<=", "y", "z"), "x < y <= z"), (("chain", "==", "x", "!=", "y", "z"), "x == y != z"),
    (("not", "x"), "not x"), (("and", "x", "y"), "x and y"), (("or", "x", "y"), "x or y"),
    (("item", "x", "y"), "x[y]"), (("attr", "x", "w"), "x.w"),
    (("call", "f", ()), "f()"), (("call", "f", ("x",)), "f(x)"), (("call", "f", ("x", "y")), "f(x, y)"),
    (("if", "c", "x", "y"), "x if c else y"), ((":=", "x", "y"), "(x := y)"),
    # Sums and products group from the left.
    (("+", ("+", "x", "y"), "z"), "x + y + z"), (("+", "x", ("+", "y", "z")), "x + (y + z)"),
    (("-", ("+", "x", "y"), "z"), "x + y - z"), (("+", "x", ("-", "y", "z")), "x + (y - z)"),
    (("*", ("*", "x", "y"), "z"), "x * y * z"), (("*", "x", ("*", "y", "z")), "x * (y * z)"),
    (("+", ("*", "x", "y"), ("*", "z", "x")), "x * y + z * x"), (("*", ("+", "x", "y"), "z"), "(x + y) * z"),
    (("*", "x", ("-", "y", "z")), "x * (y - z)"),
    # Signs.
    (("neg", ("neg", "x")), "--x"), (("*", ("neg", "x"), ("neg", "y")), "-x * -y"),
    (("neg", ("*", "x", "y")), "-(x * y)"), (("neg", ("+", "x", "y")), "-(x + y)"), (("-", "x", ("neg", "y")), "x - -y"),
    (("neg", ("item", "x", "y")), "-x[y]"), (("item", ("neg", "x"), "y"), "(-x)[y]"),
    (("attr", ("neg", "x"), "w"), "(-x).w"), (("neg", ("call", "f", ())), "-f()"), (("neg", ("None",)), "-None"),
    # Comparisons.
    (("compare", "<", ("compare", "<", "x", "y"), "z"), "(x < y) < z"),
    (("compare", "<", "x", ("compare", "<", "y", "z")), "x < (y < z)"),
    (("chain", "<", ("compare", "in", "x", "y"), "<", "x", ("chain", "<", "x", "<", "y", "z")),
     "(x in y) < x < (x < y < z)"),
    (("chain", "<", "x", "<", ("compare", "is", "x", "y"), "z"), "x < (x is y) < z"),
    (("compare", "in", ("+", "x", "y"), ("neg", "z")), "x + y in -z"),
    (("compare", "==", ("not", "x"), "y"), "(not x) == y"), (("compare", "is", "x", ("not", "y")), "x is (not y)"),
    (("compare", "is not", "x", ("or", "y", "z")), "x is not (y or z)"),
    (("+", ("compare", "<", "x", "y"), "z"), "(x < y) + z"),
    # Words between operands.
    (("not", ("not", "x")), "not not x"), (("not", ("compare", "in", "x", "y")), "not x in y"),
    (("not", ("and", "x", "y")), "not (x and y)"), (("and", ("not", "x"), ("not", "y")), "not x and not y"),
    (("and", ("and", "x", "y"), "z"), "x and y and z"), (("and", "x", ("and", "y", "z")), "x and (y and z)"),
    (("or", ("or", "x", "y"), "z"), "x or y or z"), (("or", "x", ("or", "y", "z")), "x or (y or z)"),
    (("or", ("and", "x", "y"), ("and", "y", "z")), "x and y or y and z"), (("and", ("or", "x", "y"), "z"), "(x or y) and z"),
    (("and", "x", ("or", "y", "z")), "x and (y or z)"), (("+", "x", ("not", "y")), "x + (not y)"),
    (("neg", ("not", "x")), "-(not x)"), (("not", ("neg", "x")), "not -x"),
    # `if`-`else`.
    (("if", "c", "x", ("if", "d", "y", "z")), "x if c else y if d else z"),
    (("if", "c", ("if", "d", "x", "y"), "z"), "(x if d else y) if c else z"),
    (("if", ("if", "d", "c", "e"), "x", "y"), "x if (c if d else e) else y"),
    (("if", ("or", "c", "d"), ("or", "x", "y"), ("or", "z", "x")), "x or y if c or d else z or x"),
    (("or", ("if", "c", "x", "y"), "z"), "(x if c else y) or z"), (("not", ("if", "c", "x", "y")), "not (x if c else y)"),
    (("neg", ("if", "c", "x", "y")), "-(x if c else y)"),
    # Items, attributes and calls.
    (("item", "x", ("if", "c", "y", "z")), "x[y if c else z]"), (("call", "f", (("or", "x", "y"), ("not", "z"))), "f(x or y, not z)"),
    (("attr", ("call", ("item", ("attr", "x", "w"), "y"), ("z",)), "v"), "x.w[y](z).v"),
    (("call", ("+", "x", "y"), ()), "(x + y)()"), (("attr", ("not", "x"), "w"), "(not x).w"),
    (("item", ("if", "c", "x", "y"), "z"), "(x if c else y)[z]"), (("call", ("True",), (("None",),)), "True(None)"),
    # `:=` always has its brackets, and no more.
    (("call", "f", ((":=", "x", "y"),)), "f((x := y))"), (("item", "x", (":=", "x", "y")), "x[(x := y)]"),
    ((":=", "x", (":=", "y", "z")), "(x := (y := z))"), ((":=", "x", ("if", "c", "y", "z")), "(x := y if c else z)"),
    (("attr", (":=", "x", "y"), "w"), "(x := y).w"), (("neg", (":=", "x", "y")), "-(x := y)"),
    (("+", (":=", "x", "y"), (":=", "x", "y")), "(x := y) + (x := y)"),
]

STATEMENTS = [
    (("set", "x", "y"), "x = y"), (("set", ("item", "x", "y"), "z"), "x[y] = z"), (("set", ("attr", "x", "w"), "z"), "x.w = z"),
    (("set", "x", ("compare", "==", "y", "z")), "x = y == z"), (("set", "x", ("if", "c", "y", "z")), "x = y if c else z"),
    (("set", ("attr", ("+", "x", "y"), "w"), (":=", "x", "y")), "(x + y).w = (x := y)"),
    (("take", ("x", "y"), "z"), "x, y = z"), (("take", (("attr", "x", "w"), ("item", "y", "z")), ("call", "f", ("x", "y"))),
                                          "x.w, y[z] = f(x, y)"),
    (("swap", ("x", "y"), ("y", "x")), "x, y = y, x"), (("swap", ("x", "y"), (("if", "c", "x", "y"), ("not", "x"))),
                                                    "x, y = x if c else y, not x"),
    (("aug", "+", "x", "y"), "x += y"), (("aug", "-", ("item", "x", "y"), "z"), "x[y] -= z"),
    (("aug", "*", ("attr", "x", "w"), ("+", "y", "z")), "x.w *= y + z"),
    (("del", "x"), "del x"), (("del", ("item", "x", "y")), "del x[y]"), (("del", ("attr", ("call", "f", ()), "w")), "del f().w"),
    (("do", "x"), "x"), (("do", (":=", "x", "y")), "(x := y)"), (("do", ("compare", "==", "x", "y")), "x == y"),
    (("if", "x", (PASS,), ()), "if x:\n pass"), (("if", ("not", "x"), (PASS, PASS), (("break",),)), "if not x:\n pass\n pass\nelse:\n break"),
    (("while", "x", (("continue",),), ()), "while x:\n continue"), (("while", ("True",), (PASS,), (PASS,)), "while True:\n pass\nelse:\n pass"),
    (("for", "x", "y", (PASS,), ()), "for x in y:\n pass"),
    (("for", ("item", "x", ("compare", "in", "y", "z")), ("compare", "in", "y", "z"), (PASS,), (PASS,)),
     "for x[y in z] in y in z:\n pass\nelse:\n pass"),
    (("with", "x", None, (PASS,)), "with x:\n pass"), (("with", ("if", "c", "x", "y"), ("attr", "y", "w"), (PASS,)),
                                                "with x if c else y as y.w:\n pass"),
    (("except", (PASS,), None, (PASS,)), "try:\n pass\nexcept:\n pass"),
    (("except", (PASS,), "x", (PASS,)), "try:\n pass\nexcept as x:\n pass"),
    (("finally", (PASS,), (PASS,)), "try:\n pass\nfinally:\n pass"),
    (("raise", "x"), "raise x"), (("return", ("None",)), "return None"), (("return", ("if", "c", "x", "y")), "return x if c else y"),
]


# An expression of each form; x stands where any expression may.
FORMS = [
    ("None",), ("True",), ("False",), ("+", X, X), ("-", X, X), ("*", X, X), ("neg", X), ("not", X), ("and", X, X), ("or", X, X),
    ("compare", "==", X, X), ("compare", "<", X, X), ("compare", "in", X, X), ("compare", "not in", X, X), ("compare", "is", X, X),
    ("compare", "is not", X, X), ("chain", "<", X, "==", X, X), ("item", X, X), ("attr", X, "w"), ("call", X, ()),
    ("call", X, ("y", "z")), ("if", X, X, X), (":=", "x", X),
]


def from_python(node):
    """The expression of what Python itself read."""
    words = {"Add": "+", "Sub": "-", "Mult": "*", "Eq": "==", "NotEq": "!=", "Lt": "<", "LtE": "<=", "Gt": ">",
             "GtE": ">=", "In": "in", "NotIn": "not in", "Is": "is", "IsNot": "is not", "And": "and", "Or": "or"}

    def word(op):
        return words[type(op).__name__]

    def grouped(op, nodes):
        one = from_python(nodes[0])
        for other in nodes[1:]:
            one = (word(op), one, from_python(other))
        return one

    match node:
        case ast.Name():
            return node.id
        case ast.Constant():
            return (str(node.value),)
        case ast.BinOp():
            return (word(node.op), from_python(node.left), from_python(node.right))
        case ast.UnaryOp():
            return ("neg" if isinstance(node.op, ast.USub) else "not", from_python(node.operand))
        case ast.BoolOp():
            return grouped(node.op, node.values)
        case ast.Compare() if len(node.ops) == 1:
            return ("compare", word(node.ops[0]), from_python(node.left), from_python(node.comparators[0]))
        case ast.Compare():
            return ("chain", word(node.ops[0]), from_python(node.left), word(node.ops[1]),
                    from_python(node.comparators[0]), from_python(node.comparators[1]))
        case ast.Subscript():
            return ("item", from_python(node.value), from_python(node.slice))
        case ast.Attribute():
            return ("attr", from_python(node.value), node.attr)
        case ast.Call():
            return ("call", from_python(node.func), tuple(from_python(arg) for arg in node.args))
        case ast.IfExp():
            return ("if", from_python(node.test), from_python(node.body), from_python(node.orelse))
        case ast.NamedExpr():
            return (":=", node.target.id, from_python(node.value))


def bracketed(value):
    """A text of an expression with brackets around each part."""
    def inner(*parts):
        return [f"({bracketed(part)})" for part in parts]

    match value:
        case str():
            return value
        case (word,):
            return word
        case ("compare", op, one, other):
            return f" {op} ".join(inner(one, other))
        case ("chain", op, one, link, other, last):
            return "{} {} {} {} {}".format(*inner(one), op, *inner(other), link, *inner(last))
        case ("item", one, other):
            return "{}[{}]".format(*inner(one, other))
        case ("attr", one, word):
            return "{}.{}".format(*inner(one), word)
        case ("call", one, args):
            return "{}({})".format(*inner(one), ", ".join(inner(*args)))
        case ("if", condition, one, other):
            return "{} if {} else {}".format(*inner(one, condition, other))
        case (":=", word, one):
            return "({} := {})".format(word, *inner(one))
        case ("neg", one):
            return "-{}".format(*inner(one))
        case ("not", one):
            return "not {}".format(*inner(one))
        case (word, one, other):
            return f" {word} ".join(inner(one, other))


def without_brackets(text):
    """The texts with one pair of brackets less, but those of calls and of `:=`."""
    opened = []
    for at, sign in enumerate(text):
        if sign == "(":
            opened.append(at)
        elif sign == ")":
            start = opened.pop()
            called = start > 0 and (text[start - 1].isalpha() or text[start - 1] in ")]")
            if not called and not re.match(r"\([a-z]+ := ", text[start:]):
                yield text[:start] + text[start + 1:at] + text[at + 1:]


def value_of(text):
    """The expression of a text."""
    piece = Piece.read(f"params\n{text}")
    assert len(piece) == 1 and piece[0][0] == "do"
    return piece[0][1]


class RightTextTest(unittest.TestCase):
    def test_expressions(self):
        for value, text in TEXTS:
            self.assertEqual(str(Piece((), (("do", value),))), f"params\n{text}")
            self.assertEqual(value_of(text), value)

    def test_statements(self):
        for row, text in STATEMENTS:
            loop = Piece((), (("while", "x", (row,), ()),))
            lines = "".join(f"\n {line}" for line in text.split("\n"))
            self.assertEqual(str(loop), f"params\nwhile x:{lines}")
            self.assertEqual(Piece.read(str(loop)), loop)

    def test_example(self):
        piece = Piece(("x",), (("set", "x", ("+", ("neg", "x"), ("*", "x", ("+", "x", "x")))),))
        self.assertEqual(str(piece), "params x\nx = -x + x * (x + x)")

    def test_first_lines(self):
        for params, kept, lines in (((), None, "params"), (("x",), None, "params x"), (("y", "x"), None, "params y x"),
                                    ((), (), "params\nkept"), (("x",), ("x", "abcdef"), "params x\nkept x abcdef")):
            piece = Piece(params, (PASS,), kept)
            self.assertEqual(str(piece), f"{lines}\npass")
            self.assertEqual(Piece.read(f"{lines}\npass"), piece)

    def test_whole_text(self):
        text = ("params f x\nkept y\nfor y in f(x):\n if y is None:\n  try:\n   break\n  finally:\n   f()\n"
                " else:\n  continue\nelse:\n with f as y:\n  del y\n x = y\ntry:\n pass\nexcept as y:\n try:\n  raise y\n"
                " except:\n  return y\nreturn x")
        piece = Piece.read(text)
        self.assertEqual(str(piece), text)
        self.assertEqual([row[0] for row in piece],
                         ["for", "if", "finally", "break", "do", "continue", "with", "del", "set", "except", "pass",
                          "except", "raise", "return", "return"])

    def test_needless_brackets(self):
        for text, value in (("(x)", "x"), ("((x))", "x"), ("(None)", ("None",)), ("(x + y) + z", ("+", ("+", "x", "y"), "z")),
                            ("(x).w", ("attr", "x", "w")), ("(x)[(y)]", ("item", "x", "y")), ("(f)((x), (y))", ("call", "f", ("x", "y"))),
                            ("-(x)", ("neg", "x")), ("not (x)", ("not", "x")), ("((x := y))", (":=", "x", "y")),
                            ("(x := (y))", (":=", "x", "y")), ("(x if y else z)", ("if", "y", "x", "z")),
                            ("(x) < (y) < (z)", ("chain", "<", "x", "<", "y", "z")), ("((x) in (y))", ("compare", "in", "x", "y"))):
            self.assertEqual(value_of(text), value)
        for text, row in (("(x).w = (y)", ("set", ("attr", "x", "w"), "y")), ("x[(y)] += (z)", ("aug", "+", ("item", "x", "y"), "z")),
                          ("x, y = (x), (y)", ("swap", ("x", "y"), ("x", "y"))), ("del (x)[y]", ("del", ("item", "x", "y"))),
                          ("raise (x)", ("raise", "x")), ("with (x) as y:\n pass", ("with", "x", "y", (PASS,))),
                          ("for (x).w in (y):\n pass", ("for", ("attr", "x", "w"), "y", (PASS,), ())),
                          ("if (x):\n pass", ("if", "x", (PASS,), ()))):
            self.assertEqual(Piece.read(f"params\n{text}").body, (row,))

    def test_deep_texts(self):
        self.assertEqual(value_of("(" * 20 + "x" + ")" * 20), "x")
        deep = "not " * 40 + "(-" * 20 + "x" + ")" * 20
        self.assertEqual(f"params\n{deep}".replace("(", "").replace(")", ""), str(Piece.read(f"params\n{deep}")))
        calls = "f(" * 20 + "-" * 40 + "x" + ")" * 20
        self.assertEqual(str(Piece.read(f"params\n{calls}")), f"params\n{calls}")
        letters = "params\n" + "\n".join(f"if {letter}:\n {letter} = {letter}{letter}" for letter in "abcdefghijklmnopqrstuvwxyz")
        self.assertEqual(str(Piece.read(letters)), letters)
        many = "params\n" + "\n".join(f"x{letter} = y{letter}" for letter in "abcdefghij" * 100)
        self.assertEqual(str(Piece.read(many)), many)
        self.assertEqual(len(Piece.read(many)), 1000)

    def test_random_pieces(self):
        for seed in range(1500):
            piece = random_piece(random.Random(seed))
            self.assertEqual(Piece.read(str(piece)), piece, seed)

    def test_like_python(self):
        for seed in range(1500):
            value = Maker(random.Random(seed)).expression(4)
            text = str(Piece((), (("do", value),))).partition("\n")[2]
            self.assertEqual(from_python(ast.parse(text, mode="eval").body), value, text)

    def test_what_is_read_python_reads_alike(self):
        """Operators and operands in any order: what is read at all is read as Python does."""
        fronts = ("", "", "", "not ", "-", "not -", "not not ")
        links = ("+", "*", "==", "<", "in", "not in", "is", "is not", "and", "or", "if", "else")
        many = 0
        for seed in range(8000):
            dice = random.Random(seed)
            text = dice.choice(fronts) + "x"
            for letter in "yzab"[:dice.randrange(1, 5)]:
                text = f"{text} {dice.choice(links)} {dice.choice(fronts)}{letter}"
            try:
                value = value_of(text)
            except InvalidText:
                continue
            many += 1
            self.assertEqual(from_python(ast.parse(text, mode="eval").body), value, text)
        self.assertGreater(many, 1000)

    def test_no_bracket_could_be_left_out(self):
        for seed in range(1500):
            value = Maker(random.Random(seed)).expression(4)
            text = str(Piece((), (("do", value),))).partition("\n")[2]
            for shorter in without_brackets(text):
                try:
                    self.assertNotEqual(value_of(shorter), value, text)
                except InvalidText:
                    pass

    def test_each_form_in_each_place(self):
        for outer in FORMS:
            for at, part in enumerate(outer):
                if at == 0 or part != X or (outer[0] == ":=" and at == 1):
                    continue
                for inner in FORMS + [("not", ("not", "y")), ("neg", ("neg", "y"))]:
                    value = outer[:at] + (inner,) + outer[at + 1:]
                    text = str(Piece((), (("do", value),))).partition("\n")[2]
                    self.assertEqual(value_of(text), value)
                    self.assertEqual(from_python(ast.parse(text, mode="eval").body), value, text)
                    for shorter in without_brackets(text):
                        try:
                            self.assertNotEqual(value_of(shorter), value, text)
                        except InvalidText:
                            pass

    def test_all_brackets(self):
        for seed in range(500):
            value = Maker(random.Random(seed)).expression(3)
            self.assertEqual(value_of(bracketed(value)), value)


class WrongTextTest(unittest.TestCase):
    def fails(self, line, text):
        with self.assertRaises(InvalidText) as caught:
            Piece.read(text)
        self.assertEqual(caught.exception.line, line, text)

    def test_first_lines(self):
        for text in ("", "\n", "pass", "params,", "Params", " params", "params ", "params  x", "params x ", "params x,y",
                     "params if", "params params", "params x1", "params X", "params toolong", "paramsx", "kept x\npass",
                     "x\nparams x\npass", "params None\npass"):
            self.fails(0, text)
        for text in ("kept ", "kept  x", "kept if", "kept X", "kept toolong", "kept x ", " kept x", "kept = x", "kept += x"):
            self.fails(1, f"params x\n{text}\npass")
        self.fails(2, "params x\nkept x\nkept x\npass")
        self.fails(2, "params x\npass\nkept x")
        self.fails(1, "params x\nparams x\npass")

    def test_empty_lines(self):
        self.fails(1, "params x\n")
        self.fails(1, "params x\n\npass")
        self.fails(2, "params x\npass\n")
        self.fails(2, "params x\nkept x\n\npass")
        self.fails(2, "params x\nif x:\n\n pass")
        self.fails(3, "params x\nif x:\n pass\n\npass")
        self.fails(2, "params x\nif x:\n ")
        self.fails(2, "params x\npass\n ")

    def test_depth(self):
        self.fails(1, "params x\n pass")
        self.fails(2, "params x\npass\n pass")
        self.fails(2, "params x\nif x:\n  pass")
        self.fails(3, "params x\nif x:\n pass\n  pass")
        self.fails(3, "params x\nif x:\n pass\n else:\n pass")
        self.fails(4, "params x\nwhile x:\n if x:\n  pass\n  else:\n  pass")
        self.fails(3, "params x\ntry:\n pass\n except:\n pass")

    def test_lacking_bodies(self):
        self.fails(1, "params x")
        self.fails(2, "params x\nkept x")
        for head in ("if x:", "while x:", "for x in x:", "with x:", "with x as x:", "try:"):
            self.fails(2, f"params x\n{head}")
            self.fails(2, f"params x\n{head}\npass")
            self.fails(3, f"params x\nif x:\n {head}")
            self.fails(3, f"params x\nif x:\n {head}\npass")
            self.fails(3, f"params x\nif x:\n {head}\n pass")
        self.fails(4, "params x\nif x:\n pass\nelse:")
        self.fails(4, "params x\nif x:\n pass\nelse:\npass")
        self.fails(2, "params x\nif x:\nelse:\n pass")
        self.fails(2, "params x\ntry:\nexcept:\n pass")
        for head in ("except:", "except as x:", "finally:"):
            self.fails(4, f"params x\ntry:\n pass\n{head}")
            self.fails(4, f"params x\ntry:\n pass\n{head}\npass")
        self.fails(3, "params x\ntry:\n pass")
        self.fails(3, "params x\ntry:\n pass\npass")
        self.fails(4, "params x\nif x:\n try:\n  pass\npass")

    def test_words_that_stand_nowhere(self):
        for word in ("else:", "except:", "except as x:", "finally:", "elif x:"):
            self.fails(1, f"params x\n{word}\n pass")
            self.fails(2, f"params x\npass\n{word}\n pass")
            self.fails(5, f"params x\nif x:\n pass\nelse:\n pass\n{word}\n pass")
        self.fails(3, "params x\ntry:\n pass\nelse:\n pass")
        self.fails(5, "params x\ntry:\n pass\nexcept:\n pass\nfinally:\n pass")
        self.fails(5, "params x\ntry:\n pass\nexcept:\n pass\nelse:\n pass")
        self.fails(3, "params x\nwith x:\n pass\nelse:\n pass")
        self.fails(3, "params x\nif x:\n pass\nexcept:\n pass")
        for text in ("except as:", "except as if:", "except as x.w:", "except as (x):", "except x:", "except as x",
                     "except as  x:", "except", "finally", "finally: "):
            self.fails(3, f"params x\ntry:\n pass\n{text}\n pass")

    def test_wrong_statements(self):
        for text in ("x = ", "= x", "x =", "x=y", "x =y", "x= y", "x = y = z", "x = y, z", "x, y = x, y, z", "x, y, z = x",
                     "x,y = z", "x , y = z", "(x) = y", "(x.w) = y", "(x, y) = z", "x, (y) = z", "f() = x", "None = x", "x + y = z",
                     "-x = y", "not x = y", "(x := y) = z", "x == y = z", "x := y", "x +=", "x += y += z", "x, y += z", "(x) += y",
                     "f() += x", "x += y, z", "x /= y", "x ** y", "x + = y", "x+= y", "x = y += z", "if = x", "x = if",
                     "del", "del (x)", "del x, y", "del None", "del f()", "del -x", "del (x.w)", "delete x", "raise", "raise x, y",
                     "raise(x)", "return", "return x, y", "return(x)", "return x = y", "pass x", "break x", "pass:", "x; y", "x,", "x, y",
                     "if x", "if x:pass", "if x: pass", "if:", "if :", "if (x) :", "if  x:", "if(x):", "while x", "while:",
                     "for x:", "for x in:", "for (x) in y:", "for x, y in z:", "for f() in y:", "for None in x:", "for x in y",
                     "with:", "with x as:", "with x as (y):", "with x as f():", "with x as y, z:", "with x, y:", "try x:", "try :",
                     "try", "else", "X", "toolong", "x1", "x y", "a\tb", "#", "...", "é", "def f():", "in x"):
            self.fails(1, f"params x\n{text}\n pass")

    def test_wrong_expressions(self):
        for text in ("", "(", ")", "()", "(x", "x)", "((x)", "x +", "+ x", "+x", "x + + y", "x +y", "x+ y", "x+y", "x  + y", "x / y",
                     "x * not y", "x + not y", "-not x", "- x", "x --y", "x == not y", "x == y == z == x", "x < y in z", "x in y in z",
                     "x is y is z", "x in y < z", "x is y == z", "x = = y", "x <> y", "x isnot y", "x is  not y", "x not  in y",
                     "x not y", "x is in y", "not", "not(x)", "notx y", "x and", "and x", "x and and y", "x or", "x or  y", "x if y",
                     "x if else z", "x if y else", "x if y if z else x else y", "x else y", "if x else y", "x [y]", "x[ y]", "x[y ]", "x[]",
                     "x[y, z]", "x[y:z]", "x .w", "x. w", "x.", "x.if", "x.None", "x.toolong", "x.1", "x..w", ".w", "f (x)", "f( x)", "f(x )",
                     "f(x,y)", "f(x , y)", "f(x,  y)", "f(x, )", "f(x,)", "f(, x)", "f(x, y, z)", "f(x := y)", "f(x y)", "f(x=y)", "[x]",
                     "x := y", "(x:= y)", "(x :=y)", "(x := )", "(x.w := y)", "(if := y)", "((x) := y)", "( x := y)", "(x := y )", "None1",
                     "none.", "TRUE", "Nonex", "1", "x1", "'x'", "x,y", "x if y else z if", "x()(", "x(]", "(x]"):
            for place in ("{}", "x = {}", "x[y] += {}", "return {}", "if {}:", "for x in {}:", "with {}:", "x, y = z, {}"):
                whole = place.replace("{}", text)
                self.fails(1, f"params x\n{whole}\n pass")

    def test_too_many_comparisons(self):
        for front in ("", "not ", "not not ", "not -", "-"):
            for many in ("== y == z == x", "in y == z", "== y in z", "in y in z", "is y is z", "not in y < z", "< y is not z",
                         "== y == z in x", "< y < z < x < y"):
                for place in ("{}", "x = {}", "y and {} or y", "y or {}", "y if {} else z", "{} if y else z", "y if z else {}",
                              "f({})", "x[{}]", "({})", "(y := {})", "not ({})", "y == ({})"):
                    whole = place.replace("{}", f"{front}x {many}")
                    self.fails(1, f"params x\n{whole}")
        for text in ("not x == y and z in x and not z < x", "not x < y < z", "not (x == y) == z", "(not x == y) == z == x"):
            self.assertEqual(from_python(ast.parse(text, mode="eval").body), value_of(text))

    def test_blanks(self):
        """A blank more within a line, or at its end, makes each line wrong."""
        for seed in range(300):
            lines = str(random_piece(random.Random(seed))).split("\n")
            for line, text in enumerate(lines):
                depth = len(text) - len(text.lstrip(" "))
                for at in range(depth + 1, len(text) + 1):
                    # A name in the first lines falls into two.
                    if text.split(" ")[0] in ("params", "kept") and " " not in text[at - 1:at + 1] and at < len(text):
                        continue
                    longer = text[:at] + " " + text[at:]
                    self.fails(line, "\n".join(lines[:line] + [longer] + lines[line + 1:]))

    def test_first_wrong_line(self):
        self.fails(1, "params x\nx =\ny =\n")
        self.fails(2, "params x\nif x:\n x =\nelse\n")
        self.fails(0, "params X\nx =")
        self.fails(3, "params x x\nbreak\nif x:\n")

    def test_texts_of_no_piece(self):
        for word, at, text in (("param", 1, "params x x\nbreak"), ("kept", 2, "params x\nkept x y x\nbreak"),
                               ("loose", 0, "params\nbreak"), ("loose", 2, "params\nwhile x:\n pass\nelse:\n continue"),
                               ("loose", 2, "params\ntry:\n pass\nfinally:\n return x"), ("loose", 2, "params x\npass\nif x:\n continue")):
            with self.assertRaises(InvalidPiece) as caught:
                Piece.read(text)
            self.assertEqual((caught.exception.word, caught.exception.at), (word, at), text)


if __name__ == "__main__":
    unittest.main()
