"""Parts: [36], [37] and [38]."""

import random
import unittest

from helper import Maker, random_piece
from pieceasks.books import Book
from pieceasks.comparing import compare, parts_on
from pieceasks.errors import InvalidPiece, InvalidPromise, Misfit, NoPlace, Unlike
from pieceasks.parts import exchanged, idle, part, wanted
from pieceasks.pieces import Piece
from pieceasks.promises import Promises
from text_ways import bodies_of, size, wanted_by_chance

PASS = ("pass",)

# Texts, a place, a number of statements, and the names that are wanted behind these.
WANTED = (
    # What follows reads, deletes, sets; the first counts.
    ("params x y\nx\nreturn x", 0, 1, "x"), ("params x y\nx\nreturn None", 0, 1, ""), ("params x y\nx\nreturn x", 1, 1, ""), ("params x y\nx\nreturn x", 0, 2, ""),
    ("params x y\npass\nx = y\nreturn x", 0, 1, "y"), ("params x y\npass\nx = y\nreturn x", 1, 1, "x"), ("params x y\npass\ndel x\nx = y", 0, 1, "x y"),
    ("params x y\npass\nx = None\ndel x", 0, 1, ""), ("params x y\npass\ny.w = x", 0, 1, "x y"), ("params x y\npass\nx[y] = z", 0, 1, "x y z"),
    ("params x y\npass\nx, y = y, x", 0, 1, "x y"), ("params x y\npass\nx, y = z, z\nreturn x", 0, 1, "z"), ("params x y\npass\nx, y = z\nreturn x + y", 0, 1, "z"),
    ("params x y\npass\nx, x.w = z", 0, 1, "z"), ("params x y\npass\nx.w, x = z", 0, 1, "x z"), ("params x y\npass\nx += y", 0, 1, "x y"), ("params x y\npass\nx[y] -= z", 0, 1, "x y z"),
    ("params x y\npass\nx.w *= y", 0, 1, "x y"), ("params x y\npass\ndel x[y]", 0, 1, "x y"), ("params x y\npass\ndel x.w", 0, 1, "x"), ("params x y\npass\nraise x", 0, 1, "x"),
    ("params x\npass\nreturn None\nx", 0, 1, ""), ("params x\npass\nraise None\nx", 0, 1, ""),
    # Expressions.
    ("params x y\npass\n(x := y)\nx", 0, 1, "y"), ("params x y\npass\nx + (x := y)", 0, 1, "x y"), ("params x y\npass\n(x := y) + x", 0, 1, "y"),
    ("params x y\npass\ny and (x := y)\nx", 0, 1, "x y"), ("params x y\npass\ny or (x := y)\nx", 0, 1, "x y"), ("params x y\npass\n(x := y) or x\nx", 0, 1, "y"),
    ("params x y\npass\n(x := y) if y else None\nx", 0, 1, "x y"), ("params x y\npass\nNone if (x := y) else None\nx", 0, 1, "y"),
    ("params x y\npass\n(x := y) if y else (x := None)\nx", 0, 1, "y"), ("params x y\npass\ny < y < (x := y)\nx", 0, 1, "x y"), ("params x y\npass\ny < (x := y) < x", 0, 1, "y"),
    ("params x y\npass\nx(y, z)", 0, 1, "x y z"), ("params x y\npass\n-x.w in y[z]", 0, 1, "x y z"), ("params x y\npass\nnot x is y", 0, 1, "x y"), ("params x\npass\nNone", 0, 1, ""),
    ("params x y\npass\nx if None else None", 0, 1, "x"), ("params x y\npass\nNone if None else x", 0, 1, "x"), ("params x y\npass\ntry:\n None.w += (x := None)\nexcept:\n return x", 0, 1, "x"),
    ("params x y\npass\ntry:\n del None[None]\n x = None\nexcept:\n x", 0, 1, "x"), ("params x y\npass\ntry:\n del None.w\n x = None\nexcept:\n x", 0, 1, "x"), ("params x y\npass\nwith None:\n raise None\nreturn x", 0, 1, "x"), ("params x y\npass\ndel None[None]\nreturn x", 0, 1, "x"),
    # What is kept at an end.
    ("params x y\nkept x\npass", 0, 1, "x"), ("params x y\nkept x z\nx = y\npass", 1, 1, "x z"), ("params x y\nkept x z\npass\nx = None", 0, 1, "x z"),
    ("params x y\nkept x\npass\nx = y", 0, 1, "x y"), ("params x y\nkept x\nx = None\nreturn y", 0, 1, "x y"), ("params x y\nkept x\ndel x\nreturn y", 0, 1, "x y"),
    # A constant raises nothing, but a statement in the place of the row may.
    ("params x\ntry:\n pass\n x = None\nexcept:\n return x\nreturn x", 1, 1, "x"), ("params x\ntry:\n pass\nexcept:\n return x", 1, 1, "x"),
    ("params x\npass\ntry:\n x = None\nexcept:\n return x", 0, 1, ""), ("params x y\npass\ntry:\n x = y\nexcept:\n return x", 0, 1, "x y"),
    ("params x y\npass\ntry:\n x = (y := None)\nexcept:\n return x", 0, 1, "x"), ("params x y\npass\ntry:\n y, x = None, True\nexcept:\n return x", 0, 1, ""),
    ("params x y\npass\ntry:\n y, x = None\nexcept:\n return x", 0, 1, "x"), ("params x y\npass\ntry:\n y += None\nexcept:\n return x", 0, 1, "x y"),
    ("params x y\npass\ntry:\n None.w = None\n x = None\nexcept:\n return x", 0, 1, "x"), ("params x y\npass\ntry:\n (x := None)\nexcept:\n return x", 0, 1, ""),
    ("params x y\npass\ntry:\n None + (x := None)\nexcept:\n return x", 0, 1, ""), ("params x y\npass\ntry:\n -None + (x := None)\nexcept:\n return x", 0, 1, "x"),
    ("params x y\npass\ntry:\n del y\n x = None\nexcept:\n return x", 0, 1, "x y"), ("params x y\npass\ntry:\n for x in None:\n  pass\nexcept:\n return x", 0, 1, "x"),
    ("params x y\npass\ntry:\n with None as x:\n  pass\nexcept:\n return x", 0, 1, "x"), ("params x\npass\ntry:\n return None\nexcept:\n return x", 0, 1, ""),
    ("params x\npass\ntry:\n raise None\nexcept:\n return x", 0, 1, "x"), ("params x y\npass\ntry:\n y += (x := None)\nexcept:\n return x", 0, 1, "x y"),
    # Conditions and loops.
    ("params x y\npass\nif None:\n x\nelse:\n y", 0, 1, "x y"), ("params x y\npass\nif x:\n y = x\nreturn y", 0, 1, "x y"), ("params x y\npass\nif x:\n y = x\nelse:\n y = None\nreturn y", 0, 1, "x"),
    ("params x y\npass\nwhile True:\n pass\nreturn x", 0, 1, "x"), ("params x y\npass\nwhile True:\n x = None\nreturn x", 0, 1, "x"), ("params x y\npass\nwhile x:\n y()\nelse:\n z", 0, 1, "x y z"),
    ("params x y\nwhile None:\n x = None\n y = x", 1, 1, "x"), ("params x y\nwhile None:\n x = y\n y = None\nreturn None", 2, 1, "y"), ("params x y\nwhile None:\n x = y\n y = None", 1, 1, "y"),
    ("params x y\nwhile x:\n pass\nelse:\n y\nreturn z", 1, 1, "x y z"), ("params x y\nwhile x:\n pass\nelse:\n y\nreturn z", 2, 1, "z"), ("params x y\nwhile x:\n break\nelse:\n y", 0, 1, ""),
    ("params x y\npass\nfor x in y:\n x\nreturn x", 0, 1, "x y"), ("params x y\nfor x in y:\n x()", 1, 1, ""), ("params x y\nfor x in y:\n x()\n z = y", 1, 2, "y"), ("params x y\nfor y.w in x:\n x()", 1, 1, "x y"),
    ("params x y\nfor z in x:\n pass\nelse:\n z\nreturn y", 1, 1, "y z"), ("params x y\nfor x in x:\n for y in y:\n  pass\n pass", 2, 1, "y"), ("params x y\nwhile None:\n while None:\n  pass\n x\n y = None", 2, 1, "x"),
    # `break` and `continue` are gone by, whether they stand there or not.
    ("params x y z\nwhile None:\n pass\n x\n y = None\nelse:\n z\nreturn y", 1, 1, "x y z"), ("params x y\nwhile None:\n pass\n x = None\nreturn x", 1, 1, "x"), ("params x y\nwhile None:\n pass\n return None\nreturn x", 1, 1, "x"),
    ("params x y\nwhile y:\n continue\n x", 1, 1, "x y"), ("params x y\nwhile y:\n break\n z\nreturn x", 1, 1, "x y z"),
    # Handlers.
    ("params x y\ntry:\n pass\nexcept:\n x\ny", 1, 1, "x y"), ("params x y\ntry:\n pass\nexcept as x:\n x", 1, 1, ""), ("params x y\ntry:\n pass\nexcept as x:\n y\nreturn x", 1, 1, "x y"),
    ("params x y\ntry:\n x()\nexcept as y:\n pass\nreturn y", 2, 1, ""), ("params x y\ntry:\n x()\nexcept as y:\n pass\n y\nreturn y", 2, 1, "y"), ("params x y\ntry:\n x()\nexcept:\n pass\nreturn y", 2, 1, "y"),
    ("params x y\npass\ntry:\n None\nexcept as y:\n None\nreturn y", 0, 1, "y"), ("params x y\npass\ntry:\n x\nexcept as y:\n y\nreturn x", 0, 1, "x"), ("params x y\nkept x y\ntry:\n x\nexcept as y:\n pass", 2, 1, "x"),
    ("params x y\nkept x y\ntry:\n pass\nexcept as y:\n pass", 1, 1, "x y"), ("params x y\nwhile None:\n try:\n  x()\n except as y:\n  pass\nreturn y", 3, 1, "x"),
    ("params x y\ntry:\n x()\nexcept as y:\n y = x\n pass\n y", 2, 2, "y"), ("params x y\ntry:\n try:\n  pass\n except as x:\n  None\nexcept:\n y\nreturn x", 2, 1, "x"),
    # Last bodies.
    ("params x y z\ntry:\n pass\nfinally:\n x = None\nreturn x + y", 1, 1, "y"), ("params x y z\ntry:\n pass\nfinally:\n x\nreturn y", 1, 1, "x y"), ("params x y\nkept x\ntry:\n pass\nfinally:\n x = None\nx = y", 1, 1, "y"),
    ("params x y\ntry:\n try:\n  return None\n finally:\n  pass\n y\nexcept:\n x", 3, 1, "x y"), ("params x y\nwhile None:\n try:\n  return None\n finally:\n  pass\n x = None\nelse:\n y\nreturn x", 3, 1, "x y"),
    ("params x y\nkept x\ntry:\n x = None\nfinally:\n pass\nx = None", 2, 1, "x"), ("params x y z\nwhile None:\n try:\n  pass\n finally:\n  x = None\n y\nreturn z", 2, 1, "y z"),
    ("params x y\ntry:\n try:\n  pass\n finally:\n  pass\n y\nfinally:\n x = None\nreturn x", 3, 1, "y"), ("params x y\ntry:\n None\nfinally:\n try:\n  pass\n finally:\n  x = None\nreturn x + y", 3, 1, "y"),
    ("params x y\npass\ntry:\n None\nfinally:\n x = None\nreturn x", 0, 1, ""), ("params x y\npass\ntry:\n return y\nfinally:\n x", 0, 1, "x y"), ("params x y\ntry:\n None\nfinally:\n while None:\n  pass\n  x\nreturn y", 3, 1, "x y"),
    ("params x y\ntry:\n None\nfinally:\n pass\n x = y\nreturn x", 2, 1, "y"), ("params x y\ntry:\n None\nfinally:\n pass\nreturn x", 1, 1, "x"), ("params x y\ntry:\n try:\n  None\n finally:\n  pass\n x = None\nexcept:\n return x", 3, 1, "x"),
    # `with`.
    ("params x y\nwith x as y:\n pass\nreturn y", 1, 1, "y"), ("params x y\npass\nwith x as y:\n None\nreturn y", 0, 1, "x"), ("params x y\npass\nwith x as y.w:\n z\nreturn None", 0, 1, "x y z"), ("params x y\npass\nwith x as y:\n y\nreturn None", 0, 1, "x"),
    ("params x y\ntry:\n with y:\n  pass\n  x = None\nexcept:\n x", 2, 1, "x"), ("params x y\nwith y:\n pass\n x = None\nreturn x", 1, 1, "x"), ("params x y\nwith y:\n raise None\nreturn x", 1, 1, "x"),
    ("params x y\npass\ntry:\n with None as x:\n  None\nexcept:\n x", 0, 1, "x"), ("params x y\nwhile x:\n with x:\n  pass\n y = None\nreturn y", 2, 1, "x y"),
    # Several statements.
    ("params x y\nx = y\ny = x\nz = y\nreturn z", 0, 1, "x"), ("params x y\nx = y\ny = x\nz = y\nreturn z", 0, 2, "y"), ("params x y\nx = y\ny = x\nz = y\nreturn z", 0, 3, "z"), ("params x y\nx = y\ny = x\nz = y\nreturn z", 0, 4, ""),
    ("params x y\nwhile x:\n y = x\n x = y\nz", 1, 2, "x z"), ("params x y\nif x:\n y = x\nelse:\n z = x\n x = z\nreturn y", 2, 2, "y"),
)


def places(piece):
    """The pairs of a place and a number of statements that there are."""
    found = []

    def gather(rows, start):
        starts = [start + size(rows[:at]) for at in range(len(rows))]
        for at, row in enumerate(rows):
            found.extend((starts[at], many) for many in range(1, len(rows) - at + 1))
            inner = starts[at] + 1
            for body in bodies_of(row):
                gather(row[body], inner)
                inner += size(row[body])

    gather(piece.body, 0)
    return found


def rows_of(piece, at, many):
    """The statements at a place, found by walking through all bodies."""
    def search(rows, start):
        for index, row in enumerate(rows):
            if start == at:
                return rows[index:index + many]
            inner = start + 1
            for body in bodies_of(row):
                if inner <= at < inner + size(row[body]):
                    return search(row[body], inner)
                inner += size(row[body])
            start = inner
        return None
    return search(piece.body, 0)


class Parts(unittest.TestCase):
    def fails(self, error, call, **attributes):
        with self.assertRaises(error) as caught:
            call()
        self.assertEqual({name: getattr(caught.exception, name) for name in attributes}, attributes)


class WantedTest(Parts):
    def test_each_way(self):
        for text, at, many, names in WANTED:
            piece = Piece.read(text)
            self.assertEqual(wanted(piece, at, many), tuple(names.split()), (text, at, many))
            self.assertEqual(wanted_by_chance(piece, at, many, 400), tuple(names.split()), (text, at, many))

    def test_random_pieces(self):
        """Against ways that are taken by chance."""
        checked = 0
        for seed in range(60):
            dice = random.Random(seed)
            piece = random_piece(dice, dice.choice((1, 2, 3)), plain=dice.random() < 0.5)
            for at, many in dice.sample(places(piece), 3) if len(places(piece)) > 3 else places(piece):
                told = wanted(piece, at, many)
                by_chance = wanted_by_chance(piece, at, many, 100, seed)
                self.assertLessEqual(set(by_chance), set(told), (str(piece), at, many))
                if by_chance != told:
                    by_chance = wanted_by_chance(piece, at, many, 10000, seed)
                self.assertEqual(told, by_chance, (str(piece), at, many))
                checked += 1
        self.assertGreater(checked, 100)

    def test_places(self):
        piece = Piece.read("params x\nx\nif x:\n x\n x\nelse:\n x\nwhile x:\n x\nx")
        self.assertEqual(len(piece), 8)
        right = {(0, 1), (0, 2), (0, 3), (0, 4), (1, 1), (1, 2), (1, 3), (2, 1), (2, 2), (3, 1), (4, 1), (5, 1), (5, 2), (6, 1), (7, 1)}
        self.assertEqual(set(places(piece)), right)
        for at in range(-3, 12):
            for many in range(-2, 7):
                for call in (wanted, part, lambda *given: exchanged(*given, (PASS,)), lambda *given: exchanged(*given, (None,), (None,))):
                    if (at, many) in right:
                        if call in (wanted, part):
                            call(piece, at, many)
                    else:
                        self.fails(NoPlace, lambda: call(piece, at, many), at=at)

    def test_names(self):
        self.assertEqual(wanted(many=1, at=0, piece=Piece.read("params b a\npass\nreturn b + c + a")), ("a", "b", "c"))
        self.assertIs(type(wanted(Piece.read("params\npass"), 0, 1)), tuple)


class PartTest(Parts):
    def test_parts(self):
        piece = Piece.read("params x y\nz = y\nwhile x:\n x = z()\n if x:\n  break\n y.w = x\nelse:\n return z\nfor z in y:\n for w in z:\n  break\n w = z\nreturn x")
        for at, many, text in (
            (0, 1, "params y z\nkept y z\nz = y"), (2, 1, "params x z\nkept x z\nx = z()"), (5, 1, "params x y\nkept x y\ny.w = x"), (6, 1, "params z\nkept\nreturn z"),
            (8, 1, "params w z\nkept z\nfor w in z:\n break"), (8, 2, "params w z\nkept\nfor w in z:\n break\nw = z"), (10, 1, "params w z\nkept\nw = z"), (11, 1, "params x\nkept\nreturn x"),
            (1, 1, "params x y z\nkept x y\nwhile x:\n x = z()\n if x:\n  break\n y.w = x\nelse:\n return z"),
        ):
            told = part(piece, at, many)
            self.assertEqual(str(told), text)
            self.assertIs(type(told), Piece)
        for at, many in ((3, 1), (2, 2), (2, 3), (3, 2), (4, 1)):
            self.fails(Misfit, lambda: part(piece, at, many), word="loose")
        self.assertEqual(str(part(piece, 9 - 2, 1)).split("\n")[0], "params w y z")
        self.fails(Misfit, lambda: part(piece, 9, 1), word="loose")

    def test_loose(self):
        for text, at, many in (
            ("params x\nwhile x:\n break", 1, 1), ("params x\nwhile x:\n continue", 1, 1), ("params x\nfor x in x:\n if x:\n  break\n else:\n  continue", 2, 1), ("params x\nfor x in x:\n if x:\n  x\n else:\n  continue", 1, 1),
            ("params x\nwhile x:\n x\n break", 1, 2), ("params x\nwhile x:\n while x:\n  pass\n else:\n  break", 1, 1), ("params x\nwhile x:\n try:\n  break\n finally:\n  pass", 1, 1), ("params x\nwhile x:\n with x:\n  continue", 1, 1),
            ("params x\nwhile x:\n try:\n  pass\n except:\n  continue", 1, 1),
        ):
            self.fails(Misfit, lambda: part(Piece.read(text), at, many), word="loose")
            self.fails(Misfit, lambda: exchanged(Piece.read(text), at, many, (), [None]), word="loose")
            self.assertNotIn(at, list(idle(Piece.read(text))))
        for text, at in (("params x\nwhile x:\n while x:\n  break", 1), ("params x\nwhile x:\n while x:\n  break\nx", 0), ("params x\ntry:\n x\nfinally:\n while x:\n  continue", 2), ("params x\nreturn x", 0)):
            self.assertEqual(part(Piece.read(text), at, 1).params, ("x",))

    def test_random_pieces(self):
        for seed in range(80):
            piece = random_piece(random.Random(seed), 3)
            for at, many in places(piece):
                rows = rows_of(piece, at, many)
                try:
                    whole = Piece((), rows)
                except InvalidPiece as error:
                    self.assertEqual(error.word, "loose")
                    self.fails(Misfit, lambda: part(many=many, at=at, piece=piece), word="loose")
                    continue
                told = part(many=many, at=at, piece=piece)
                behind = wanted(piece, at, many)
                self.assertEqual((told.params, told.body, told.kept), (whole.names, rows, tuple(name for name in whole.names if name in behind)))


class ExchangedTest(Parts):
    def alike(self, text, at, many, rows, promises=(), expected=None):
        piece, statements = Piece.read(text), Piece.read("params\n" + rows).body if isinstance(rows, str) else rows
        told = exchanged(piece, at, many, statements, promises)
        self.assertIs(type(told), Piece)
        self.assertEqual(exchanged(promises=list(promises), rows=list(statements), many=many, at=at, piece=piece), told)
        self.assertEqual((told.params, told.kept), (piece.params, piece.kept))
        self.assertIsNone(compare(piece, told, promises))
        if expected is not None:
            self.assertEqual(str(told), expected)
        self.assertEqual(rows_of(told, at, len(statements)), tuple(statements))

    def unlike(self, text, at, many, rows, promises=()):
        piece, statements = Piece.read(text), Piece.read("params\n" + rows).body
        with self.assertRaises(Unlike) as caught:
            exchanged(piece, at, many, statements, promises)
        old = part(piece, at, many)
        names = Piece((), old.body + statements).names
        kept = tuple(name for name in names if name in wanted(piece, at, many))
        one, other = Piece(names, old.body, kept), Piece(names, statements, kept)
        book = caught.exception.book
        self.assertIs(type(book), Book)
        self.assertTrue(parts_on(one, other, book))
        self.assertEqual(len(book), len(compare(one, other, promises)))
        self.assertTrue(all(Promises(tuple(promises)).kept_by(given, book) for given in (one, other)))

    def test_alike(self):
        self.alike("params x y\nx += y\nreturn x", 0, 1, "x = x + y", (("bare", "iadd"),), "params x y\nx = x + y\nreturn x")
        self.alike("params x y\nx += y\nreturn x", 0, 1, "x += y\npass", (), "params x y\nx += y\npass\nreturn x")
        self.alike("params x y\nif x:\n y = x\n x = y\nelse:\n x\nreturn x", 1, 2, "y = x", (), "params x y\nif x:\n y = x\nelse:\n x\nreturn x")
        self.alike("params x y\nif x:\n y = x\nelse:\n x\n x\nreturn x", 2, 2, "x", (), "params x y\nif x:\n y = x\nelse:\n x\nreturn x")
        self.alike("params x y\nwhile x:\n y = x()\n x = y\nreturn x", 1, 2, "x = x()", (), "params x y\nwhile x:\n x = x()\nreturn x")
        self.alike("params x\ntry:\n x()\nexcept as z:\n raise z", 2, 1, "y = z\nraise y")
        self.alike("params x\ntry:\n x()\nfinally:\n x = None", 2, 1, "pass")
        self.alike("params x\nfor y in x:\n y = None\n del y\n y = True\nreturn y", 1, 3, "z = True\ny = z")
        self.alike("params x y\nz = x\nreturn y", 0, 1, "z = x\nw = z")
        self.alike("params x y\nx()\nreturn y", 0, 2, "x()\nreturn y\nx()")
        self.alike("params x\nkept x\nx = x", 0, 1, "x\npass")
        self.alike("params x\nwith x as y:\n y()\nreturn x", 0, 1, "with x as z:\n z()")

    def test_unlike(self):
        self.unlike("params x y\nx += y\nreturn x", 0, 1, "x = x + y")
        self.unlike("params x y\nx += y\nreturn x", 0, 1, "x = x + y", (("calm", "add"), ("has", "iadd")))
        self.unlike("params x y\nx = y\nreturn x", 0, 1, "pass")
        self.unlike("params x y\nx = None\ntry:\n x = y\nexcept:\n return x", 0, 1, "pass")
        # By its text the name may be wanted, or raise, or the part may be left otherwise.
        self.unlike("params x y\nx = None\nwhile True:\n pass\nreturn x", 0, 1, "pass")
        self.unlike("params x\nx", 0, 1, "pass")
        self.unlike("params x\nx()\nreturn None", 0, 1, "x()\nreturn None")
        self.unlike("params x y\nif x is y:\n x()", 0, 1, "if x is y:\n y(y)")

    def test_kept_names(self):
        """What is not wanted behind may be otherwise; names of the new statements alone, too."""
        text = "params x y\nkept y\nx = y\nz = x\ny = z"
        self.alike(text, 0, 2, "z = y")
        self.unlike(text, 0, 1, "z = y")
        self.alike(text, 0, 3, "y\nx = None")
        self.alike(text, 1, 2, "w = x\ny = w")
        self.unlike(text, 2, 1, "pass")

    def test_errors(self):
        piece = Piece.read("params x\nwhile x:\n x\n break\ntry:\n x()\nfinally:\n x")
        wrong = [None]
        self.fails(NoPlace, lambda: exchanged(piece, 6, 1, (), wrong), at=6)
        self.fails(NoPlace, lambda: exchanged(piece, 2, 2, (None,), wrong), at=2)
        self.fails(NoPlace, lambda: exchanged(piece, 1, 0, (), ()), at=1)
        self.fails(Misfit, lambda: exchanged(piece, 2, 1, (), wrong), word="loose")
        self.fails(InvalidPiece, lambda: exchanged(piece, 1, 1, (), wrong), word="body", at=0)
        self.fails(InvalidPiece, lambda: exchanged(piece, 1, 1, [], wrong), word="body", at=0)
        for rows, word, at in (((None,), "form", 0), ((PASS, ("set", "x")), "form", 1), ((("if", "x", (PASS, "pass"), ()), None), "form", 2), ((("break",),), "loose", 0),
                               ((PASS, ("while", "x", (PASS,), (("continue",),))), "loose", 3), ((("finally", (PASS,), (("return", "x"),)),), "loose", 2), ((["pass"],), "form", 0)):
            self.fails(InvalidPiece, lambda: exchanged(piece, 1, 1, rows, wrong), word=word, at=at)
            self.fails(InvalidPiece, lambda: exchanged(piece, 5, 1, list(rows), wrong), word=word, at=at)
        # The part is right, but the whole is not.
        self.fails(InvalidPiece, lambda: exchanged(piece, 5, 1, (("return", "x"),), wrong), word="loose", at=5)
        self.fails(InvalidPiece, lambda: exchanged(piece, 5, 1, (PASS, ("if", "x", (PASS,), (("return", "x"),))), wrong), word="loose", at=8)
        self.fails(InvalidPiece, lambda: exchanged(piece, 5, 1, (("return", "x"), None), wrong), word="form", at=1)
        self.fails(InvalidPromise, lambda: exchanged(piece, 5, 1, (PASS,), wrong), at=0)
        self.fails(InvalidPromise, lambda: exchanged(piece, 0, 1, (PASS,), (("bare", "add"), ("calm", "add"))), at=1)
        self.fails(Unlike, lambda: exchanged(piece, 5, 1, (PASS,)))

    def test_random_pieces(self):
        """What is told is alike to the piece; and it is told where both parts are alike."""
        told = {True: 0, False: 0}
        for seed in range(150):
            dice = random.Random(seed)
            maker = Maker(dice, ("x", "y", "z"), dice.random() < 0.4)
            piece = Piece(("x", "y", "z")[:dice.randrange(4)], maker.body(2, False, False, 3), dice.choice((None, None, ("x",), ("z", "y"))))
            at, many = dice.choice(places(piece))
            rows = list(rows_of(piece, at, many))
            index = dice.randrange(len(rows))
            row, way = rows[index], dice.randrange(5)
            if way == 0:
                rows.insert(index, PASS)
            elif way == 1:
                rows = [PASS]
            elif way == 2 and row[0] == "aug":
                rows[index] = ("set", row[2], row[1:])
            elif way == 3:
                rows.append(("set", dice.choice(("x", "y", "z")), dice.choice((("None",), "x"))))
            else:
                rows[index] = ("finally", (row,), (PASS,))
            promises = dice.choice(((), (("bare", "iadd"), ("bare", "isub"), ("bare", "imul")), (("calm", "call"), ("has", "call")), (("bare", "bool"), ("bare", "len"))))
            if len(piece) > 8:
                continue
            try:
                old = part(piece, at, many)
                whole = exchanged(piece, at, many, tuple(rows), promises)
            except Misfit:
                continue
            except InvalidPiece as error:
                self.assertEqual(error.word, "loose")
                continue
            except Unlike as error:
                whole = None
            names = Piece((), old.body + tuple(rows)).names
            kept = [name for name in names if name in wanted(piece, at, many)]
            one, other = Piece(names, old.body, kept), Piece(names, rows, kept)
            self.assertEqual(compare(one, other, promises) is None, whole is not None, (str(piece), at, rows))
            if whole is not None:
                self.assertIsNone(compare(piece, whole, promises), (str(piece), at, rows))
            told[whole is not None] += 1
        self.assertTrue(told[True] > 20 and told[False] > 20, told)


class IdleTest(Parts):
    def test_places(self):
        for text, promises, expected in (
            ("params x y\npass\nx\nNone\nreturn x", "", [0, 2]), ("params x y\nz = x\nreturn y", "", []), ("params x y\nz = None\nreturn y", "", [0]), ("params x\nwhile x:\n break\n pass", "", [2]),
            ("params x\nwhile x:\n pass\n continue", "", [1]), ("params\nif None:\n pass", "", [0, 1]), ("params\nif None:\n pass\nelse:\n None", "", [0, 1, 2]), ("params x y\nx.w = y\nreturn y", "has setattr, calm setattr", []),
            ("params x\nkept x\nx = None\ny = True", "", [1]), ("params x\nx = None\nx = True\nreturn x", "", [0]), ("params x\ntry:\n x = None\n x = True\nfinally:\n pass\nreturn x", "", [1, 3]),
            ("params\nreturn None", "", []), ("params\ntry:\n pass\nexcept:\n pass", "", [0, 1, 2]), ("params\ntry:\n pass\nfinally:\n pass", "", [0, 1, 2]), ("params\nwhile None:\n None()", "", [0]),
            ("params x\nwhile None:\n x = None\n raise None\nreturn x", "", [0]), ("params x\nfor x in None:\n pass", "", [1]), ("params x y\nif None:\n x = y\nreturn x", "", [0]),
        ):
            piece = Piece.read(text)
            vows = Promises.read(promises)
            told = list(idle(piece, vows))
            self.assertEqual(told, expected, text)
            self.assertEqual(list(idle(promises=list(vows), piece=piece)), told)

    def test_against_exchanged(self):
        found = 0
        for seed in range(60):
            dice = random.Random(seed)
            maker = Maker(dice, ("x", "y", "z"), dice.random() < 0.5)
            piece = Piece(("x", "y"), maker.body(2, False, False, 3), dice.choice((None, None, ("x",))))
            if len(piece) > 8:
                continue
            promises = dice.choice(((), (("calm", "call"), ("has", "call")), (("bare", "bool"), ("bare", "len"))))
            right = []
            for at in range(len(piece)):
                try:
                    exchanged(piece, at, 1, (PASS,), promises)
                except (Unlike, Misfit):
                    continue
                right.append(at)
            self.assertEqual(list(idle(piece, promises)), right, str(piece))
            found += len(right)
        self.assertGreater(found, 10)

    def test_errors(self):
        """They are raised when it is first iterated."""
        piece = Piece.read("params x\nwhile x:\n break")
        for wrong, at in (((("bare", "x"),), 0), ([("bare", "add"), ("has", "add")], 1)):
            given = idle(piece, wrong)
            self.assertEqual(iter(given), given)
            self.fails(InvalidPromise, lambda: next(given), at=at)
        given = idle(Piece.read("params\npass\nNone"))
        self.assertEqual((next(given), next(given), next(given, None)), (0, 1, None))


if __name__ == "__main__":
    unittest.main()
