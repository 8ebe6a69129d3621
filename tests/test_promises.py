"""Promises: [33] and [34]."""

import itertools
import unittest

from pieceasks.books import METHODS, Book
from pieceasks.codes import Code, compiled
from pieceasks.errors import InvalidBook, InvalidPromise
from pieceasks.pieces import Piece
from pieceasks.promises import Promises

DECLINING = "add sub mul radd rsub rmul iadd isub imul eq ne lt le gt ge".split()
TELLING = DECLINING + "neg iter enter contains getitem exit call getattr".split()
TRUTHS = "eq ne lt le gt ge contains exit".split()
WORDS = {"bare": METHODS, "has": METHODS, "calm": METHODS, "takes": DECLINING, "itself": TELLING, "truth": TRUTHS}
EVERY = [(word, method) for word in WORDS for method in WORDS[word]]
ODD = (None, True, 0, "", "bare", "bare add", (), ("bare",), ("bare", "add", "add"), ["bare", "add"], ("add", "bare"), ("Bare", "add"), ("bare", "added"),
       ("bare", None), (None, "add"), ("bare", ["add"]), (["bare"], "add"), ("bare", 0), (("bare", "add"),), ("bare ", "add"), ("", ""), ("loose", "add"))


class PromisesTest(unittest.TestCase):
    def fails(self, at, act):
        with self.assertRaises(InvalidPromise) as caught:
            act()
        self.assertEqual(caught.exception.at, at)

    def test_each_word_with_each_method(self):
        for word in WORDS:
            for method in METHODS:
                text = f"{word} {method}"
                if method in WORDS[word]:
                    promises = Promises(((word, method),))
                    self.assertEqual((str(promises), list(promises), len(promises)), (text, [(word, method)], 1))
                    self.assertEqual(Promises.read(text), promises)
                else:
                    self.fails(0, lambda: Promises(((word, method),)))
                    self.fails(1, lambda: Promises([("calm", method), (word, method)]))
                    self.fails(0, lambda: Promises.read(text))
                    self.fails(1, lambda: Promises.read(f"has neg, {text}"))

    def test_values_that_are_none(self):
        for odd in ODD:
            self.fails(0, lambda: Promises((odd,)))
            self.fails(2, lambda: Promises([("bare", "add"), ("calm", "neg"), odd, odd]))
            self.assertFalse(odd in Promises((("bare", "add"),)))

    def test_against_one_another(self):
        for one, other in itertools.permutations(EVERY, 2):
            against = one[1] == other[1] and ("bare" in (one[0], other[0]) or {one[0], other[0]} == {"itself", "truth"})
            if one[1] != other[1] and (one[1] not in ("eq", "add") or other[1] not in ("eq", "neg")):
                continue
            text = ", ".join(f"{word} {method}" for word, method in (one, other))
            if against:
                self.fails(1, lambda: Promises((one, other)))
                more = ("has", "isub" if one[1] != "isub" else "sub")
                self.fails(3, lambda: Promises((more, one, more, other, None)))
                self.fails(1, lambda: Promises.read(text))
            else:
                promises = Promises((one, other))
                self.assertEqual(list(promises), sorted((one, other)))
                self.assertEqual(Promises.read(text), promises)
        self.fails(2, lambda: Promises((("calm", "eq"), ("takes", "eq"), ("bare", "eq"))))
        self.assertEqual(len(Promises(("itself", method) for method in TELLING)), len(TELLING))

    def test_first_fault(self):
        self.fails(1, lambda: Promises((("bare", "eq"), ("has", "eq"), None)))
        self.fails(1, lambda: Promises((("bare", "eq"), None, ("has", "eq"))))
        self.fails(1, lambda: Promises.read("bare eq, has eq, x"))
        self.fails(1, lambda: Promises.read("bare eq, x, has eq"))

    def test_twice(self):
        promises = Promises((("calm", "neg"), ("bare", "add"), ("calm", "neg")))
        self.assertEqual((list(promises), len(promises)), ([("bare", "add"), ("calm", "neg")], 2))
        self.assertEqual(str(Promises.read("calm neg, calm neg")), "calm neg")

    def test_order_and_texts(self):
        promises = Promises(pairs=[("truth", "eq"), ("takes", "lt"), ("itself", "iter"), ("has", "len"), ("has", "le"), ("calm", "sub"), ("bare", "add"),
                                   ("calm", "radd")])
        text = "bare add, calm radd, calm sub, has le, has len, itself iter, takes lt, truth eq"
        self.assertEqual(str(promises), text)
        self.assertEqual(list(promises), [tuple(part.split(" ")) for part in text.split(", ")])
        self.assertEqual(list(promises), sorted(promises))
        self.assertEqual(Promises.read(text), promises)
        self.assertEqual(Promises.read(", ".join(reversed(text.split(", ")))), promises)
        self.assertEqual((str(Promises()), len(Promises()), list(Promises())), ("", 0, []))
        self.assertEqual(Promises.read(""), Promises())
        self.assertEqual(Promises.read("has len"), Promises((("has", "len"),)))

    def test_texts_that_are_none(self):
        for text in (" ", ",", ", ", "bare", "bare ", " bare", "bare  add", " bare add", "bare add ", "bare add x", "bareadd", "bare,add", "bare add,", "bare\nadd",
                     "Bare add", "bare Add", "bare added", "bare .w", "bare add,calm neg", "bare add;calm neg", "x", "(bare, add)", "takes neg", "itself next"):
            self.fails(0, lambda: Promises.read(text))
            self.fails(1, lambda: Promises.read(f"has neg, {text}"))
            self.fails(2, lambda: Promises.read(f"has neg, has sub, {text}, bare neg"))
        self.fails(1, lambda: Promises.read("bare add, "))
        self.fails(0, lambda: Promises.read(", bare add"))
        self.fails(1, lambda: Promises.read("bare add, , calm neg"))
        self.fails(1, lambda: Promises.read("bare add,  calm neg"))
        self.fails(0, lambda: Promises.read("bare add , calm neg"))

    def test_in_and_equality(self):
        promises = Promises.read("bare add, calm neg")
        for value in (("bare", "add"), ("calm", "neg")):
            self.assertIn(value, promises)
        for value in (("bare", "sub"), ("calm", "add"), "bare add", None, 0, True, [("bare", "add")], ["bare", "add"], (("bare", "add"), ("calm", "neg")), {}):
            self.assertNotIn(value, promises)
        self.assertEqual(promises, Promises((("calm", "neg"), ("bare", "add"))))
        self.assertFalse(promises != Promises((("calm", "neg"), ("bare", "add"))))
        for other in (Promises(), Promises.read("bare add"), Promises.read("bare add, calm sub"), (("bare", "add"), ("calm", "neg")),
                      [("bare", "add"), ("calm", "neg")], "bare add, calm neg", None, {("bare", "add"), ("calm", "neg")}):
            self.assertFalse(promises == other)
            self.assertTrue(promises != other)

    def test_later_changes(self):
        pairs = [("bare", "add")]
        promises = Promises(pairs)
        pairs.append(("calm", "neg"))
        self.assertEqual(list(promises), [("bare", "add")])
        self.assertEqual([part for part in promises for _ in promises], [("bare", "add")])


class SetsTest(unittest.TestCase):
    SETS = [Promises(part) for many in range(4) for part in itertools.combinations((("bare", "add"), ("calm", "neg"), ("takes", "eq"), ("truth", "eq")), many)]

    def test_orders(self):
        for one in self.SETS:
            for other in self.SETS:
                first, second = set(one), set(other)
                self.assertEqual((one <= other, one < other, one >= other, one > other), (first <= second, first < second, first >= second, first > second))
        for value in ((), (("bare", "add"),), [], set(), "", None, 0):
            for act in (lambda: self.SETS[1] <= value, lambda: self.SETS[1] < value, lambda: self.SETS[1] >= value, lambda: self.SETS[1] > value):
                with self.assertRaises(TypeError):
                    act()

    def test_joined(self):
        for one in self.SETS:
            for other in self.SETS:
                before = (str(one), str(other))
                joined, common, rest = (Promises(sorted(act(set(one), set(other)))) for act in (set.union, set.intersection, set.difference))
                for first, second in ((one, other), (tuple(one), other), (one, tuple(other)), (one, list(other)), (list(one), other),
                                      (one, tuple(other) + tuple(other))):
                    self.assertEqual((first | second, first & second, first - second), (joined, common, rest))
                    self.assertEqual([type(part) for part in (first | second, first & second, first - second)], [Promises] * 3)
                    changed = [first, first, first]
                    changed[0] |= second
                    changed[1] &= second
                    changed[2] -= second
                    self.assertEqual(changed, [joined, common, rest])
                self.assertEqual((str(one), str(other)), before)

    def fails(self, at, act):
        with self.assertRaises(InvalidPromise) as caught:
            act()
        self.assertEqual(caught.exception.at, at)

    def test_against_one_another(self):
        one = Promises.read("bare add, calm neg, takes eq")
        # The index is that among the pairs of both, ascending.
        self.fails(1, lambda: one | Promises.read("calm add, calm sub"))
        self.fails(1, lambda: Promises.read("calm add") | one)
        self.fails(3, lambda: one | (("has", "add"), ("calm", "bool")))
        self.fails(2, lambda: (("has", "add"),) | one)
        self.fails(3, lambda: (one | (("has", "bool"),)) | (("itself", "add"),))
        self.fails(1, lambda: Promises((("itself", "eq"),)) | (("truth", "eq"),))
        self.fails(1, lambda: (("truth", "eq"),) | Promises((("itself", "eq"),)))
        # What goes against one another may be taken away, and has nothing in common.
        self.assertEqual(str(one - (("has", "add"),)), "bare add, calm neg, takes eq")
        self.assertEqual(str((("has", "add"),) - one), "has add")
        self.assertEqual(str(one & (("has", "add"),)), "")

    def test_tuples_are_looked_at_first(self):
        one = Promises.read("bare add, calm neg")
        acts = (lambda pairs: one | pairs, lambda pairs: one & pairs, lambda pairs: one - pairs, lambda pairs: pairs | one, lambda pairs: pairs & one,
                lambda pairs: pairs - one)
        for act in acts:
            self.fails(1, lambda: act((("has", "add"), None)))
            self.fails(0, lambda: act((("takes", "neg"),)))
            self.fails(2, lambda: act((("has", "add"), ("has", "neg"), ("bare", "neg"))))
            self.fails(2, lambda: act([("has", "add"), ("has", "neg"), ("bare", "neg")]))
            for value in (None, 0, "bare add", {("bare", "add")}):
                with self.assertRaises(TypeError):
                    act(value)
        promises = one
        with self.assertRaises(InvalidPromise) as caught:
            promises |= (("has", "add"),)
        self.assertEqual((promises, str(one), caught.exception.at), (one, "bare add, calm neg", 2))
        for value in (None, 0, "bare add"):
            with self.assertRaises(TypeError):
                promises &= value


class KeptTest(unittest.TestCase):
    def kept(self, promises, text, book):
        piece = Piece.read(text)
        told = Promises.read(promises).kept_by(piece, Book.read(book))
        self.assertEqual(Promises.read(promises).kept_by(compiled(piece), Book.read(book)), told)
        self.assertIs(type(told), bool)
        return told

    def test_looks(self):
        text = "params x y\nreturn x + y"
        for promises, book, kept in (
            ("", "begin 0 1\nadd:0 radd:1", True), ("bare add", "begin 0 1", False), ("bare add", "begin 0 1\nadd:0", True),
            ("bare add", "begin 0 1\nadd:1", False), ("bare add", "begin 0 1\nadd:0 tells 2", True), ("bare add", "begin 0 1\ntells 2", False),
            ("bare radd", "begin 0 1", True), ("bare radd", "begin 0 1\nadd:0", False), ("bare radd", "begin 0 1\nadd:0 radd:1", True),
            ("bare radd", "begin 0 0\nadd:0", True), ("bare radd", "begin 0 1\ndeclines", False), ("bare radd", "begin 0 1\ndeclines\nradd:1", True),
            ("bare radd", "begin 0 1\ndeclines\nradd:0", False), ("bare radd", "begin 0 1\ntells 2", True),
            ("has add", "begin 0 1", True), ("has add", "begin 0 1\nadd:0", False), ("has add", "begin 0 1\nadd:1", True),
            ("has add", "begin 0 1\nadd:0 tells 2", False), ("has radd", "begin 0 1\nadd:0 radd:1", False), ("has radd", "begin 0 1\nradd:1", True),
            ("has radd", "begin 0 1\nadd:0 radd:0", True), ("has radd", "begin 0 1\ndeclines\nradd:1", False), ("has add", "begin 0 1\ndeclines\nadd:0", True),
            ("has neg", "begin 0 1\nneg:0 neg:1", True), ("bare neg", "begin 0 1", True), ("bare add, has radd", "begin 0 1\nadd:0", True),
            ("bare add, has radd", "begin 0 1\nadd:0 radd:1", False),
            # What lies behind the end is left.
            ("has neg", "begin 0 1\ntells 2\nneg:0 neg:1 stop\nneg:2", True), ("calm neg", "begin 0 1\ntells 2\nraises 0", True),
            # Also at a moment at which it ends.
            ("has radd", "begin 0 1\nadd:0 radd:1 stop", False),
        ):
            self.assertEqual(self.kept(promises, text, book), kept, (promises, book))

    def test_constants_and_errors_have_no_methods(self):
        self.assertTrue(self.kept("has add, has radd", "params\nreturn None + True", "begin"))
        self.assertTrue(self.kept("has bool, has len", "params x\nkept\nnot x", "begin TypeError"))
        self.assertFalse(self.kept("has bool", "params x\nkept\nnot x", "begin 0\nbool:0"))

    def test_endless(self):
        text = "params x\nwhile True:\n if x:\n  pass"
        self.assertTrue(self.kept("bare bool, bare len", text, "begin 0\nbool:0 len:0"))
        self.assertFalse(self.kept("has len", text, "begin 0\nbool:0 len:0"))
        self.assertFalse(self.kept("has bool", text, "begin 0\nyes\nno\nbool:0 len:0"))

    def test_each_word_with_each_method(self):
        """A code asks each method; the answers keep each promise or break it."""
        for method in METHODS:
            args = {"setattr": (0, ".w", 0), "getattr": (0, ".w"), "delattr": (0, ".w"), "setitem": (0, 0, 0)}.get(method)
            if args is None:
                args = (0,) if method in "neg iter enter next bool len call".split() else (0, 0)
            answers = [("raises", 0), ("raises", 1)]
            if method in TELLING or method == "next":
                answers += [("tells", 0), ("tells", 1)]
            if method in TRUTHS:
                answers += [("tells", "True"), ("tells", "False")]
            if method in DECLINING:
                answers.append(("declines",))
            answers += [(word,) for word in {"next": ["stop"], "bool": ["no", "yes"], "len": ["empty", "some"]}.get(method, [])]
            if method in ("delitem", "setitem", "delattr", "setattr"):
                answers.append(("done",))
            words = sorted({answer[0] for answer in answers})
            code = Code(1, (("has", method, 0, 1, 2), ("ask", method, args, 0, tuple((word, 2) for word in words)), ("end", "returns", "None", ())))
            for answer in answers:
                book = Book((0,), (((), answer),))
                for word in WORDS:
                    if method not in WORDS[word]:
                        continue
                    kept = {"bare": False, "has": True, "calm": answer[0] != "raises", "takes": answer[0] != "declines",
                            "itself": answer[0] != "tells" or answer[1] == 0, "truth": answer[0] != "tells" or answer[1] in ("True", "False")}[word]
                    self.assertEqual(Promises(((word, method),)).kept_by(code, book), kept, (word, method, answer))
                    other = "neg" if method != "neg" else "add"
                    if other in WORDS[word]:
                        self.assertTrue(Promises(((word, other),)).kept_by(code, book))

    def test_several_things(self):
        text = "params x y\nz = -x\nz = -y\nreturn z"
        self.assertTrue(self.kept("itself neg", text, "begin 0 1\ntells 0\ntells 1"))
        self.assertFalse(self.kept("itself neg", text, "begin 0 1\ntells 0\ntells 0"))
        self.assertFalse(self.kept("itself neg", text, "begin 0 1\ntells 1"))
        self.assertFalse(self.kept("itself neg", text, "begin 0 1\ntells 2\ntells 1"))
        self.assertTrue(self.kept("calm neg, has neg", text, "begin 0 1\ntells 1"))
        self.assertFalse(self.kept("calm neg, has neg", text, "begin 0 1\ntells 1\nneg:1"))
        self.assertFalse(self.kept("calm add, has sub, has neg", text, "begin 0 1\ntells 1\nneg:1"))
        self.assertTrue(self.kept("calm add, has sub", text, "begin 0 1\ntells 1\nneg:1"))

    def test_errors(self):
        piece = Piece.read("params x\nreturn -x")
        for promises in ("", "bare neg", "has neg"):
            for word, at, book in (("begin", 0, "begin"), ("begin", 0, "begin unset"), ("begin", 1, "begin 0 1"), ("answer", 0, "begin 0\nstop")):
                for walker in (piece, compiled(piece)):
                    with self.assertRaises(InvalidBook) as caught:
                        Promises.read(promises).kept_by(walker, Book.read(book))
                    self.assertEqual((caught.exception.word, caught.exception.at), (word, at))
        with self.assertRaises(InvalidBook) as caught:
            Promises.read("bare neg").kept_by(piece=Piece.read("params x\nx = -x\nx = -x"), book=Book.read("begin 0\ntells 1\nstop"))
        self.assertEqual((caught.exception.word, caught.exception.at), ("answer", 1))


if __name__ == "__main__":
    unittest.main()
