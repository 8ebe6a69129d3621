"""Rules: [39]."""

import itertools
import random
import unittest

from helper import Maker
from pieceasks.books import Book
from pieceasks.comparing import compare
from pieceasks.errors import InvalidPiece, InvalidPromise, Misfit, OtherShape
from pieceasks.parts import wanted
from pieceasks.pieces import Piece
from pieceasks.promises import Promises
from pieceasks.rules import Rule
from test_parts import rows_of


def rule(params, kept, old, new):
    first = f"params {params}\nkept {kept}\n".replace("params \n", "params\n").replace("kept \n", "kept\n")
    return Rule(Piece.read(first + old), Piece.read(first + new))


IN_PLACE = ("a b", "a b", "a += b", "a = a + b")


def renamed(value, names):
    """Any part of a statement with other names, which are single letters, so that no word of a statement is taken for one."""
    if isinstance(value, tuple):
        return tuple(renamed(part, names) for part in value)
    return names.get(value, value)


def places_by_trying(given, piece):
    """The places of a rule: each renaming to names of the piece is tried."""
    own = Piece((), given.old.body).names
    found = []
    for at in range(len(piece)):
        rows = rows_of(piece, at, len(given.old.body))
        if len(rows) < len(given.old.body):
            continue
        for names in itertools.permutations(piece.names, len(own)):
            table = dict(zip(own, names))
            if renamed(given.old.body, table) != rows:
                continue
            behind = wanted(piece, at, len(rows))
            if all(name in given.old.kept for name in own if table[name] in behind):
                found.append(at)
    return found


class RuleTest(unittest.TestCase):
    def fails(self, error, call, **attributes):
        with self.assertRaises(error) as caught:
            call()
        self.assertEqual({name: getattr(caught.exception, name) for name in attributes}, attributes)

    def test_example(self):
        one, other = Piece.read("params x y\nx += y\nreturn x"), Piece.read("params x y\nx = x + y\nreturn x")
        given = Rule(Piece.read("params a b\nkept a\na += b"), Piece.read("params a b\nkept a\na = a + b"))
        self.assertEqual((list(given.places(one)), given.parting(Promises.read("bare iadd")) is None, given.used(one, 0) == other), ([0], True, True))

    def test_what_makes_a_rule(self):
        read = Piece.read
        for old, new in (
            ("params a\nkept a\na", "params a\nkept a\na = a"), ("params\nkept\npass", "params\nkept\nNone"), ("params a b c\nkept a b\na = b", "params a b c\nkept a b\na = c"),
            ("params a b\nkept b a\na = b", "params a b\nkept b a\npass"), ("params b a\nkept\nb", "params b a\nkept\na"), ("params a\nkept a\na.b = a", "params a\nkept a\na.c"),
            ("params a b c\nkept a\na", "params a b c\nkept a\na = None"), ("params a b\nkept a\nif None:\n a", "params a b\nkept a\nb"),
        ):
            given = Rule(new=read(new), old=read(old))
            self.assertEqual((given.old, given.new), (read(old), read(new)))
        for old, new in (
            # Whole pieces; other params, kept names, or another order of them.
            ("params a\na", "params a\na"), ("params a\nkept a\na", "params a\na"), ("params a\na", "params a\nkept a\na"), ("params a b\nkept a\na", "params a\nkept a\na"),
            ("params a b\nkept a\na = b", "params b a\nkept a\na = b"), ("params a b\nkept a b\na = b", "params a b\nkept b a\na = b"), ("params a b\nkept a\na = b", "params a b\nkept b\na = b"),
            ("params a b\nkept a\na = b", "params a b\nkept\na = b"),
            # Names that are no params: of the body of either, of what is kept.
            ("params a\nkept a\na = b", "params a\nkept a\na = a"), ("params a\nkept a\na", "params a\nkept a\na = b"), ("params a\nkept b\na = b", "params a\nkept b\nb = a"),
            ("params a\nkept a\nfor b in a:\n pass", "params a\nkept a\na"),
            # A kept name that does not occur in the body of the old one.
            ("params a b\nkept b\na", "params a b\nkept b\nb = a"), ("params a b\nkept a b\na.b", "params a b\nkept a b\nb"), ("params a\nkept a\npass", "params a\nkept a\na"),
        ):
            self.fails(OtherShape, lambda: Rule(read(old), read(new)))

    def test_turned_about(self):
        given = rule(*IN_PLACE)
        turned = ~given
        self.assertIs(type(turned), Rule)
        self.assertEqual((turned.old, turned.new), (given.new, given.old))
        self.assertEqual(~turned, given)
        self.assertEqual((given.old.body[0][0], turned.used(Piece.read("params x y\nx = x + y"), 0)), ("aug", Piece.read("params x y\nx += y")))
        self.fails(OtherShape, lambda: ~rule("a b", "a b", "a = b", "a"))
        self.fails(OtherShape, lambda: ~rule("a", "a", "a", "pass"))
        self.assertEqual((~rule("a", "", "a", "pass")).new.body, (("do", "a"),))

    def test_equality(self):
        given = rule(*IN_PLACE)
        self.assertEqual(given, rule(*IN_PLACE))
        self.assertFalse(given != rule(*IN_PLACE))
        for other in (~given, rule("a b", "a b", "a += b", "a = b + a"), rule("b a", "b a", "b += a", "b = b + a"), rule("a b", "a", "a += b", "a = a + b"), rule("a b", "a b", "a -= b", "a = a + b"), None, given.old, (given.old, given.new), "rule"):
            self.assertFalse(given == other)
            self.assertTrue(given != other)

    def test_parting(self):
        given = rule(*IN_PLACE)
        for promises in ((), (("calm", "add"),), [("has", "iadd")], Promises.read("calm iadd")):
            told = given.parting(promises)
            self.assertIs(type(told), Book)
            self.assertEqual(len(told), len(compare(given.old, given.new, promises)))
        self.assertIsNone(given.parting(promises=[("bare", "iadd")]))
        self.assertEqual(len(given.parting()), 0)
        self.assertIsNone(rule("a", "a", "a = a", "a\npass").parting())
        self.fails(InvalidPromise, lambda: given.parting((("bare", "x"),)), at=0)

    def test_places(self):
        in_place = rule(*IN_PLACE)
        for given, text, expected in (
            (in_place, "params x y\nx += y\ny += x\nx -= y\nx += x\nx.w += y\nx += y.w\nreturn x", [0, 1]),
            # In all kinds of bodies.
            (in_place, "params x y z\nfor x in y:\n x += y\nelse:\n z += y\nwhile x:\n y += x\nelse:\n x += z\nif x:\n x += y\nelse:\n y += x", [1, 2, 4, 5, 7, 8]),
            (in_place, "params x y\nwith x:\n x += y\ntry:\n x += y\nexcept as z:\n z += y\ntry:\n y += x\nfinally:\n x += z", [1, 3, 4, 6, 7]),
            # Names that are wanted behind and are not kept.
            (rule("a b", "a", "a = b\nb = a", "a = b"), "params x y\nx = y\ny = x\nreturn x", [0]), (rule("a b", "a", "a = b\nb = a", "a = b"), "params x y\nx = y\ny = x\nreturn x + y", []),
            (rule("a b", "b", "a = b\nb = a", "pass\nb"), "params x y\nx = y\ny = x\nreturn y", [0]), (rule("a b", "", "a = b", "b"), "params x y\nx = y\nreturn y", []), (rule("a b", "b", "a = b", "b"), "params x y\nx = y\nreturn y", [0]),
            (rule("a b", "", "a = b", "b"), "params x y\nx = y", [0]), (rule("a b", "a b", "a = b", "pass\na = b"), "params x y\nx = y\nreturn y + x", [0]),
            (rule("a b", "b", "a = b", "b"), "params x y\nwhile x:\n x = y", []), (rule("a b", "b", "a = b", "b"), "params x y\nwhile y:\n z = y", [1]), (rule("a b", "b", "a = b", "b"), "params x y\ntry:\n x = y\nexcept:\n return x", []),
            (rule("a b", "b", "a = b", "b"), "params x y\nkept x\nx = y\nx = None", []),
            # One name for two, two for one.
            (rule("a b", "a b", "a = b", "a = b"), "params x y\nx = x\ny = y\nx = y", [2]), (rule("a", "a", "a = a", "a = a"), "params x y\nx = x\nx = y\ny = y", [0, 2]),
            (rule("a b", "a b", "a + b", "pass"), "params x y\nx + y\ny + x\nx + x\n(x + y) + x", [0, 1]),
            # Several statements that follow one another, overlapping, and not enough of them.
            (rule("a b", "a b", "a = b\nb = a", "a = b"), "params x y\nx = y\ny = x\nx = y\nx = y\nif x:\n y = x\ny = x", [0, 1]), (rule("", "", "pass\npass", "pass"), "params\npass\npass\npass\nif None:\n pass\n pass\nelse:\n pass", [0, 1, 4]),
            # Words of attributes and operators are no names.
            (rule("a", "a", "a.w", "a.w"), "params x w\nx.w\nw.w\nx.v\nx.w()", [0, 1]), (rule("a b", "a b", "a < b", "a < b"), "params x y\nx < y\nx > y\nx <= y", [0]), (rule("a", "a", "return a", "raise a"), "params x\nreturn x\nreturn None", [0]),
            # Statements with bodies, and all forms of expressions.
            (rule("a b", "a b", "for a in b:\n break\nelse:\n b", "b"), "params x y\nfor x in y:\n break\nelse:\n y\nfor y in x:\n break\nelse:\n x\nfor x in y:\n break", [0, 3]),
            (rule("a", "", "try:\n pass\nexcept as a:\n a", "pass"), "params\ntry:\n pass\nexcept as x:\n x\ntry:\n pass\nexcept as x:\n y\ntry:\n pass\nexcept:\n x", [0]),
            (rule("a b", "a b", "with a as b:\n pass", "b = a"), "params x y\nwith x as y:\n pass\nwith x:\n pass\nwith y as x:\n pass", [0, 4]),
            (rule("a", "a", "with a:\n a", "a"), "params x\nwith x:\n x\nwith x as y:\n x\nwith y:\n y", [0, 4]), (rule("a", "a", "try:\n a\nexcept:\n a", "a"), "params x\ntry:\n x\nexcept:\n x\ntry:\n x\nexcept as y:\n x", [0]),
            (rule("a b", "a b", "(a := b)", "a = b"), "params x y\n(x := y)\nx = y\n(x := x)\n(y := x)", [0, 3]), (rule("a b", "a b", "a if b else -a(b, None)", "a"), "params x y\nx if y else -x(y, None)\nx if y else -x(y, True)\nx if y else -x(y)\ny if x else -y(x, None)", [0, 3]),
            (rule("", "", "None", "pass"), "params x\nNone\nTrue\nx", [0]), (rule("a b", "a b", "a, b = b, a", "a, b = b, a"), "params x y\nx, y = y, x\nx, y = x, y\nx, y = y", [0]),
        ):
            piece = Piece.read(text)
            told = given.places(piece)
            self.assertEqual(iter(told), told)
            self.assertEqual(list(told), expected, (str(given.old), text))
            for at in range(-2, len(piece) + 2):
                if at in expected:
                    self.assertIs(type(given.used(piece, at)), Piece)
                else:
                    self.fails(Misfit, lambda: given.used(at=at, piece=piece), word="place")

    def test_used(self):
        for given, text, at, expected in (
            (rule(*IN_PLACE), "params x y\nwhile x:\n y += x\nreturn x", 1, "params x y\nwhile x:\n y = y + x\nreturn x"), (rule("a b", "a", "a = b\nb = a", "a = b"), "params x y\npass\ny = x\nx = y\nreturn y", 1, "params x y\npass\ny = x\nreturn y"),
            (rule("b a", "a", "a = b", "pass\na = b\npass"), "params x\nif x:\n y = x\nelse:\n z = x\nreturn z", 2, "params x\nif x:\n y = x\nelse:\n pass\n z = x\n pass\nreturn z"),
            # Names of the new one alone: the first letters that are no names of the piece, in ascending order.
            (rule("p q r s", "p", "p", "q = p\nr = q\ns = r"), "params x\nx", 0, "params x\na = x\nb = a\nc = b"), (rule("p s r q", "p", "p", "s = p\nr = s\nq = r"), "params a c\na", 0, "params a c\ne = a\nd = e\nb = d"),
            (rule("a b c", "a b", "a = b", "c = a\na = b\nb = c"), "params b c\nb = c\nreturn e.d", 0, "params b c\na = b\nb = c\nc = a\nreturn e.d"),
            (rule("a b", "", "pass", "a = b\nb = a"), "params x y\npass", 0, "params x y\na = b\nb = a"), (rule("x y", "x", "x", "y = x"), "params x\nkept a\nx", 0, "params x\nkept a\nb = x"),
            (rule("a b c", "a", "a", "for b in a:\n c = b"), "params b\nkept b\nb", 0, "params b\nkept b\nfor a in b:\n c = a"),
            (rule("a b", "a", "a", "(b := a)"), "params a\na", 0, "params a\n(b := a)"), (rule("a b", "a", "a", "try:\n a\nexcept as b:\n b.w"), "params c\nc", 0, "params c\ntry:\n c\nexcept as a:\n a.w"),
            (rule("a b", "a", "a", "with a as b:\n del b"), "params c\nc", 0, "params c\nwith c as a:\n del a"), (rule("a b", "a", "a", "b += a\nb[a] -= b\na.b = b"), "params c\nc", 0, "params c\na += c\na[c] -= a\nc.b = a"),
            (rule("a b", "a", "a", "b if b < a < b else not b"), "params c\nc", 0, "params c\na if a < c < a else not a"), (rule("a b", "a", "a", "b, a.w = b(a, b)"), "params c\nc", 0, "params c\na, c.w = a(c, a)"),
        ):
            piece = Piece.read(text)
            self.assertEqual(str(given.used(at=at, piece=piece)), expected)
            self.assertEqual(str(piece), text)

    def test_a_piece_that_would_be_wrong(self):
        given = rule("a", "a", "a", "return a")
        piece = Piece.read("params x\nx\ntry:\n x\nfinally:\n x")
        self.assertEqual(list(given.places(piece)), [0, 2, 3])
        self.assertEqual(str(given.used(piece, 2)), "params x\nx\ntry:\n return x\nfinally:\n x")
        self.fails(InvalidPiece, lambda: given.used(piece, 3), word="loose", at=3)
        self.fails(Misfit, lambda: given.used(piece, 1), word="place")
        given = rule("a", "a", "a", "pass\nif a:\n return a")
        self.fails(InvalidPiece, lambda: given.used(piece, 3), word="loose", at=5)

    def test_random_pieces(self):
        """Places against all renamings that are tried; and right rules keep pieces alike."""
        dice = random.Random(8)
        rules = [(rule(*IN_PLACE), (("bare", "iadd"),)), (rule("a b", "a b", "a = b", "pass\na = b"), ()), (rule("a b", "b", "a = b", "b"), ()), (rule("a", "a", "a()", "try:\n a()\nfinally:\n pass"), ()),
                 (rule("a b c", "a b", "a = b()", "c = b()\na = c"), ()), (rule("a", "a", "return a", "a\nreturn a"), ()), (rule("a b", "a b", "a()\nb()", "a()\nb()\npass"), ()), (rule("a", "a", "a", "a\na"), ())]
        used = 0
        for _ in range(300):
            maker = Maker(dice, ("x", "y", "z"), True)
            piece = Piece(("x", "y"), maker.body(2, False, False, 4), dice.choice((None, None, ("y",))))
            if len(piece) > 9:
                continue
            for given, promises in rules:
                told = list(given.places(piece))
                self.assertEqual(told, places_by_trying(given, piece), (str(given.old), str(piece)))
                right = given.parting(promises) is None
                for at in told[:1] if right else ():
                    try:
                        whole = given.used(piece, at)
                    except InvalidPiece:
                        continue
                    self.assertIsNone(compare(piece, whole, promises), (str(given.old), str(piece), at))
                    used += 1
        self.assertGreater(used, 100)


if __name__ == "__main__":
    unittest.main()
