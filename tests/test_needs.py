"""Which promises are needed: [35]."""

import itertools
import unittest

from pieceasks.books import Book
from pieceasks.codes import compiled
from pieceasks.comparing import compare, is_alike, parts_on
from pieceasks.errors import InvalidPromise, OtherShape, Unlike
from pieceasks.needs import least_promises, needed
from pieceasks.pieces import Piece
from pieceasks.promises import Promises


def whole(text):
    return Piece.read("params x y\n" + text)


# Two texts, promises, and the least sets.
SETS = (
    ("x += y\nreturn x", "x = x + y\nreturn x", "bare iadd, calm add", ["bare iadd"]),
    ("x += y\nreturn x", "x = x + y\nreturn x", "", []), ("x += y\nreturn x", "x = x + y\nreturn x", "calm add, has iadd", []),
    ("x += y\nreturn x", "z = x\nx += y\nreturn x", "", [""]), ("x += y\nreturn x", "z = x\nx += y\nreturn x", "bare iadd, calm add, takes add", [""]),
    ("return x() is x", "x()\nreturn True", "itself call, calm call, has call", ["itself call"]),
    ("return not x", "return False if x else True", "bare bool", [""]), ("with x:\n return y", "with x:\n pass\nreturn y", "calm enter, calm exit", [""]),
    ("with x:\n pass\nreturn y", "with x:\n pass\nreturn x", "calm exit, calm enter", []), ("return x == y", "return y == x", "bare eq, calm lt", ["bare eq"]),
    # Two together alone.
    ("x[y] += x\ny -= x\nreturn y", "z = x[y]\nx[y] = z + x\ny = y - x\nreturn y", "bare iadd, bare isub, bare imul", ["bare iadd, bare isub"]),
    ("x -= y\ny += x\nreturn y", "x = x - y\ny = y + x\nreturn y", "bare iadd, bare isub, has add, has sub, calm sub, calm add", ["bare iadd, bare isub"]),
    ("try:\n return -x\nexcept:\n return y", "return -x", "calm neg, has neg, bare add, calm sub", ["calm neg, has neg"]),
    # Either of two, or of two sets.
    ("if x:\n pass", "pass", "bare bool, bare len, has neg", ["bare bool, bare len"]), ("if x:\n pass", "if x:\n x()", "bare call, calm bool", []),
    ("try:\n x()\nexcept:\n y[y]", "try:\n x()\nexcept:\n None[None]", "calm call, has call, bare getitem", ["bare getitem", "calm call, has call"]),
    ("try:\n return x + y\nexcept:\n return y", "return x + y", "calm add, has add, takes add, calm radd, has radd, takes radd", None),
    ("return x < y", "return y > x", "bare lt, bare gt, calm eq", ["bare gt", "bare lt"]),
)


class NeedsTest(unittest.TestCase):
    def check(self, one, other, promises):
        """The least sets, against all subsets."""
        vows = list(promises)
        alike = [Promises(some) for many in range(len(vows) + 1) for some in itertools.combinations(vows, many) if is_alike(one, other, some)]
        least = [some for some in alike if not any(fewer < some for fewer in alike)]
        least.sort(key=lambda some: (len(some), str(some)))
        told = least_promises(one, other, promises)
        self.assertEqual(told, tuple(least), (str(one), str(other), str(promises)))
        self.assertIs(type(told), tuple)
        self.assertTrue(all(type(some) is Promises for some in told))
        self.assertEqual(least_promises(other, one, tuple(vows)), told)
        self.assertEqual(least_promises(compiled(one), compiled(other), vows), told)
        self.check_needed(one, other, promises)
        return [str(some) for some in told]

    def check_needed(self, one, other, promises):
        vows = list(promises)
        if not is_alike(one, other, promises):
            with self.assertRaises(Unlike) as caught:
                needed(one, other, promises)
            self.check_book(one, other, vows, caught.exception.book)
            return
        told = needed(one, other, promises)
        self.assertEqual(sorted(told), vows)
        for vow, book in told.items():
            rest = [kept for kept in vows if kept != vow]
            if is_alike(one, other, rest):
                self.assertIsNone(book)
            else:
                self.check_book(one, other, rest, book)
        told.clear()
        self.assertEqual(sorted(needed(one, other, tuple(vows))), vows)

    def check_book(self, one, other, vows, book):
        self.assertIs(type(book), Book)
        self.assertTrue(parts_on(one, other, book))
        self.assertEqual(len(book), len(compare(one, other, vows)))
        self.assertTrue(all(Promises(vows).kept_by(piece, book) for piece in (one, other)))

    def test_sets(self):
        for text, other, promises, least in SETS:
            told = self.check(whole(text), whole(other), Promises.read(promises))
            if least is not None:
                self.assertEqual(told, least, (text, other, promises))

    def test_order(self):
        """By size, then ascending by their texts."""
        one = whole("try:\n x + y\nexcept:\n x()")
        for text, promises in (("try:\n x + y\nexcept:\n x(x)", "bare call, calm add, has add, takes add, takes radd, has radd, calm radd"),
                               ("x + y", "has add, calm add, takes add, has call, calm call"), ("pass", "bare add, bare radd, bare call")):
            told = self.check(one, whole(text), Promises.read(promises))
            self.assertEqual(told, sorted(told, key=lambda some: (some.count(","), some)))
        self.assertEqual(self.check(one, whole("try:\n x + y\nexcept:\n x(x)"), Promises.read("bare call, calm add, has add, takes add")),
                         ["bare call", "calm add, has add, takes add"])
        self.check(whole("if x == y:\n -x\nelse:\n --x"), whole("-x"), Promises.read("bare bool, bare len, calm eq, truth eq, calm neg, has neg"))
        self.assertEqual(self.check(whole("try:\n x()\nexcept:\n y[y]\nreturn x"), whole("try:\n x()\nexcept:\n y.w\nreturn x"),
                                    Promises.read("calm call, bare getitem, bare getattr, has call")), ["bare getattr, bare getitem", "calm call, has call"])

    def test_parts(self):
        one, other = Piece.read("params x y\nkept x\nx += y"), Piece.read("params x y\nkept x\nx = x + y")
        self.assertEqual(self.check(one, other, Promises.read("bare iadd")), ["bare iadd"])
        self.assertEqual(self.check(one, one, Promises.read("bare iadd, calm add")), [""])

    def test_eight_promises(self):
        one, other = whole("x += y\ny -= x\nx *= y\nreturn x"), whole("x = x + y\ny = y - x\nx = x * y\nreturn x")
        promises = Promises.read("bare iadd, bare isub, bare imul, calm add, calm sub, calm mul, has add, has sub")
        self.assertEqual([str(some) for some in least_promises(one, other, promises)], ["bare iadd, bare imul, bare isub"])
        self.assertEqual({vow: None if book is None else len(book) for vow, book in needed(one, other, promises).items()},
                         {("bare", "iadd"): 0, ("bare", "isub"): 1, ("bare", "imul"): 2, **{vow: None for vow in promises if vow[0] != "bare"}})

    def test_examples(self):
        one, other = whole("x += y\nreturn x"), whole("x = x + y\nreturn x")
        self.assertEqual([str(some) for some in least_promises(promises=Promises.read("bare iadd, calm add"), other=other, one=one)], ["bare iadd"])
        told = needed(promises=[("bare", "iadd"), ("calm", "add"), ("calm", "add")], other=other, one=one)
        self.assertEqual((list(sorted(told)), len(told["bare", "iadd"]), told["calm", "add"]), ([("bare", "iadd"), ("calm", "add")], 0, None))
        self.assertEqual(least_promises(one, other, ()), ())
        self.assertEqual(least_promises(one, one, ()), (Promises(),))
        self.assertEqual(needed(one, one, ()), {})

    def test_errors(self):
        one, part, three = whole("pass"), Piece.read("params x y\nkept\npass"), Piece.read("params x y z\npass")
        for call in (least_promises, needed):
            for other in (part, three):
                for promises in (Promises(), (("bare", "x"),), [None]):
                    with self.assertRaises(OtherShape):
                        call(one, other, promises)
            for promises, at in (((("bare", "x"),), 0), ([("bare", "add"), ("has", "add")], 1), ((("calm", "add"), None), 1)):
                with self.assertRaises(InvalidPromise) as caught:
                    call(one, whole("return x"), promises)
                self.assertEqual(caught.exception.at, at)
        with self.assertRaises(Unlike) as caught:
            needed(one, whole("return x"), (("bare", "add"),))
        self.assertEqual(len(caught.exception.book), 0)


if __name__ == "__main__":
    unittest.main()
