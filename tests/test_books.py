"""Books: [15] and [16]."""

import random
import unittest

from pieceasks.books import METHODS, Book
from pieceasks.errors import InvalidBook, InvalidText, NoPlace

ALL_METHODS = ("add bool call contains delattr delitem enter eq exit ge getattr getitem gt iadd imul isub iter le len lt "
               "mul ne neg next radd rmul rsub setattr setitem sub").split()
LONE = ("declines", "done", "empty", "no", "some", "stop", "yes")
# Values that are nothing at all.
ODD = (None, True, False, -1, 99, "", "x", "0", (), [], (None,), ("x", "y", "z"), [("add", 0)], ((),), "None ", ("None",))


def moment(*answer, lacking=()):
    return (lacking, answer)


def random_book(dice, most=8):
    """A book of all forms."""
    begin, many = [], 0
    for _ in range(dice.randrange(4)):
        thing = dice.choice([*range(many + 1), "None", "True", "False", "TypeError", "ValueError", "NameError", "unset"])
        begin.append(thing)
        many += thing == many
    moments = []

    def lacking():
        return tuple((dice.choice(METHODS), dice.randrange(many)) for _ in range(dice.choice((0, 0, 1, 3)))) if many else ()

    for _ in range(dice.randrange(most)):
        pairs = lacking()
        answer = dice.choice([(dice.choice(LONE),), ("tells", dice.choice(("True", "False"))),
                              (dice.choice(("tells", "raises")), dice.randrange(many + 1))])
        many += answer[-1] == many
        moments.append((pairs, answer))
    return Book(tuple(begin), tuple(moments), lacking())


class BookTest(unittest.TestCase):
    def fails(self, word, at, *args):
        with self.assertRaises(InvalidBook) as caught:
            Book(*args)
        self.assertEqual((caught.exception.word, caught.exception.at), (word, at), args)

    def test_methods(self):
        self.assertEqual(METHODS, tuple(ALL_METHODS))
        self.assertEqual(METHODS, tuple(sorted(METHODS)))

    def test_properties(self):
        book = Book((0, 1, "unset"), (((("sub", 1), ("add", 0)), ("tells", 2)),), (("neg", 2),))
        self.assertEqual(book.begin, (0, 1, "unset"))
        self.assertEqual(book.moments, (((("add", 0), ("sub", 1)), ("tells", 2)),))
        self.assertEqual(book.lacking, (("neg", 2),))
        self.assertEqual(len(book), 1)
        self.assertEqual((Book(()).begin, Book(()).moments, Book(()).lacking, len(Book(()))), ((), (), (), 0))
        named = Book(lacking=(("add", 0),), moments=(), begin=(0,))
        self.assertEqual(named, Book((0,), (), (("add", 0),)))

    def test_begin(self):
        for begin in ((), (0,), (0, 0, 0), (0, 1, 2), (0, 1, 0, 2, 1), ("None", "True", "False", "TypeError", "ValueError", "NameError", "unset"),
                      ("unset", 0, "None", 1, 0)):
            self.assertEqual(Book(begin).begin, begin)
            self.assertEqual(Book(list(begin)).begin, begin)
        for at, begin in ((0, (1,)), (1, (0, 2)), (2, (0, "None", 2)), (3, (0, 1, 1, 3)), (1, ("unset", 1)), (0, (-1,)), (1, (0, -1))):
            self.fails("begin", at, begin)
        for odd in ODD:
            self.fails("begin", 0, (odd, 0))
            self.fails("begin", 1, (0, odd))
            self.fails("begin", 1, ["None", odd, odd])

    def test_lacking(self):
        for pairs in ((), (("add", 0),), (("sub", 1), ("add", 1), ("add", 0)), [("add", 0), ("add", 0)], [("neg", 1)]):
            book = Book((0, 1), ((pairs, ("stop",)),), pairs)
            self.assertEqual(book.lacking, tuple(sorted(set(pairs))))
            self.assertEqual(book.moments[0][0], tuple(sorted(set(pairs))))
        for pairs in ((("add", 2),), (("add", -1),), (("added", 0),), (("add", 0, 0),), (("add",),), (["add", 0],), ((0, "add"),), (("add", "0"),),
                      (("add", True),), (("add", False),), (("add", 0.5),), (("add", None),), ((["add"], 0),), ("add",), ((("add", 0),),),
                      (("add", 0), ("sub", 1), ("mul", 2)), (("add", 0), None), None, "add", 5, True, {}):
            self.fails("lacking", 0, (0, 1), ((pairs, ("stop",)),))
            self.fails("lacking", 1, (0, 1), (moment("stop"), (pairs, ("stop",)), moment("stop")))
            self.fails("lacking", 0, (0, 1), (), pairs)
            self.fails("lacking", 2, (0, 1), (moment("stop"), moment("stop")), pairs)
        # Only what came ahead of the moment.
        self.fails("lacking", 0, (), (moment("tells", 0, lacking=(("add", 0),)),))
        self.assertEqual(Book((), (moment("tells", 0),), (("add", 0),)).lacking, (("add", 0),))
        self.assertEqual(Book(("unset", 0), (moment("raises", 1), moment("no", lacking=(("add", 1),)))).moments[1][0], (("add", 1),))
        self.fails("lacking", 1, (0,), (moment("raises", 0), moment("no", lacking=(("add", 1),))))
        self.fails("lacking", 1, ("None", "unset"), (moment("tells", "True"),), (("add", 0),))

    def test_moments_that_are_no_pairs(self):
        for odd in ODD + (moment("stop") + ((),), list(moment("stop")), ((),), 5, ("stop",), "lacking stop"):
            self.fails("lacking", 0, (0,), (odd,))
            self.fails("lacking", 2, (0,), [moment("no"), moment("no"), odd, odd])

    def test_answers(self):
        right = [(word,) for word in LONE] + [(word, thing) for word in ("tells", "raises") for thing in (0, 1, 2)]
        right += [("tells", "True"), ("tells", "False")]
        for answer in right:
            book = Book((0, 1), [moment(*answer)])
            self.assertEqual(book.moments, (((), answer),))
            self.assertEqual(Book((0, 1), [moment(*answer), moment(*answer)]).moments, (((), answer), ((), answer)))
        wrong = [("tells",), ("raises",), ("tells", 3), ("raises", 3), ("tells", -1), ("tells", "None"), ("tells", "TypeError"), ("tells", "unset"),
                 ("tells", True), ("tells", False), ("tells", None), ("tells", "0"), ("tells", (0,)), ("tells", [0]), ("tells", 0, 0), ("tells", "x"),
                 ("raises", "True"), ("raises", "False"), ("raises", "None"), ("raises", "TypeError"), ("raises", True), ("told", 0), ("tell", 0),
                 ["stop"], ["tells", 0], "stop", ("stop", 0), ("no", "no"), ("declines", 0), ("x",), (0,), (None,), (("stop",),), (["stop"],),
                 (), None, True, 0, ("",), ("", 0), ("yes ",), ("asks",), ("lacks", 0)]
        for answer in wrong:
            self.fails("answer", 0, (0, 1), (((), answer),))
            self.fails("answer", 1, (0, 1), (moment("stop"), ((), answer), ((), None)), None)
        # A new thing is the next one, each time.
        self.assertEqual(len(Book((), (moment("tells", 0), moment("raises", 1), moment("tells", 1), moment("tells", 2)))), 4)
        self.fails("answer", 1, (), (moment("tells", 0), moment("tells", 2)))
        self.fails("answer", 2, (0,), (moment("tells", 0), moment("tells", "True"), moment("tells", 2)))

    def test_order_of_faults(self):
        self.fails("begin", 0, (5, 6), (None,), None)
        self.fails("begin", 1, (0, 6), (None,), None)
        self.fails("lacking", 0, (0,), (((("add", 7),), ("x",)), None), None)
        self.fails("answer", 0, (0,), (((("add", 0),), ("x",)), None), None)
        self.fails("lacking", 1, (0,), (moment("no"), None, ((), "x")), None)
        self.fails("answer", 1, (0,), (moment("no"), moment("x"), moment("no", lacking=5)), None)
        self.fails("lacking", 2, (0,), (moment("no"), moment("no")), (("add", 0), ("add", 1)))

    def test_later_changes(self):
        begin, pairs, behind = [0, 1], [("sub", 1), ("add", 0)], [("neg", 0)]
        moments = [(pairs, ("stop",))]
        book = Book(begin, moments, behind)
        text = str(book)
        begin.append(9)
        pairs.clear()
        behind.append(("x", "y"))
        moments.append(5)
        self.assertEqual((book.begin, book.moments, book.lacking), ((0, 1), (((("add", 0), ("sub", 1)), ("stop",)),), (("neg", 0),)))
        self.assertEqual((str(book), len(book)), (text, 1))

    def test_upto(self):
        moments = (moment("tells", 1, lacking=(("add", 0),)), moment("no", lacking=(("sub", 1),)), moment("stop"))
        book = Book((0,), moments, (("neg", 0), ("eq", 1)))
        self.assertEqual(book.upto(0), Book((0,), (), (("add", 0),)))
        self.assertEqual(book.upto(1), Book((0,), moments[:1], (("sub", 1),)))
        self.assertEqual(book.upto(2), Book((0,), moments[:2], ()))
        self.assertEqual(book.upto(3), book)
        self.assertEqual(book.upto(many=3).lacking, (("eq", 1), ("neg", 0)))
        self.assertEqual(Book(()).upto(0), Book(()))
        for many in (-1, 4, 5, -3, 100):
            with self.assertRaises(NoPlace) as caught:
                book.upto(many)
            self.assertEqual(caught.exception.at, many)

    def test_sum(self):
        book = Book((0,), (), (("add", 0),))
        longer = book + ([("neg", 0), ("add", 0)], ("tells", 1))
        self.assertEqual(longer, Book((0,), ((((("add", 0), ("neg", 0))), ("tells", 1)),)))
        self.assertEqual(book, Book((0,), (), (("add", 0),)))
        self.assertEqual((longer + moment("raises", 2)).moments[1], ((), ("raises", 2)))
        for word, wrong in (("lacking", None), ("lacking", [(), ("no",)]), ("lacking", ()), ("lacking", ((("add", 2),), ("no",))),
                            ("lacking", 5), ("answer", ((), ("tells", 3))), ("answer", ((("neg", 1),), None)), ("lacking", (None, None))):
            with self.assertRaises(InvalidBook) as caught:
                longer + wrong
            self.assertEqual((caught.exception.word, caught.exception.at), (word, 1))

    def test_equality(self):
        book = Book((0, 1), (moment("tells", 2, lacking=(("add", 0),)),), (("sub", 2),))
        self.assertEqual(book, Book([0, 1], [([("add", 0), ("add", 0)], ("tells", 2))], [("sub", 2)]))
        self.assertFalse(book != Book((0, 1), (moment("tells", 2, lacking=(("add", 0),)),), (("sub", 2),)))
        for other in (Book((0, 0), (moment("tells", 1, lacking=(("add", 0),)),), (("sub", 1),)), Book((0, 1), (moment("tells", 2),), (("sub", 2),)),
                      Book((0, 1), (moment("raises", 2, lacking=(("add", 0),)),), (("sub", 2),)), Book((0, 1), book.moments),
                      Book((0, 1), book.moments, (("sub", 1),)), Book((0, 1)), Book((0, 1, "None"), book.moments, book.lacking),
                      (book.begin, book.moments, book.lacking), str(book), None, 0):
            self.assertFalse(book == other)
            self.assertTrue(book != other)

    def test_order(self):
        books = [random_book(random.Random(seed), 4) for seed in range(60)]
        for one in books:
            for other in books:
                first, second = (len(one), str(one)), (len(other), str(other))
                self.assertEqual((one < other, one <= other, one > other, one >= other),
                                 (first < second, first <= second, first > second, first >= second))
        # By length ahead of the text; by figures as words.
        self.assertLess(Book((0, 1)), Book((), (moment("no"),)))
        self.assertLess(Book((), (moment("tells", 0), moment("no"))), Book((), (moment("tells", 0), moment("yes"))))
        long = Book(tuple(range(11)))
        self.assertLess(long + moment("tells", 10), long + moment("tells", 2))
        for value in (0, "begin", ((), (), ())):
            for act in (lambda: long < value, lambda: long <= value, lambda: long > value, lambda: long >= value):
                with self.assertRaises(TypeError):
                    act()


class TextTest(unittest.TestCase):
    def fails(self, line, text):
        for read in (lambda: Book.read(text), lambda: Book.of(text.encode("ascii"))):
            with self.assertRaises(InvalidText) as caught:
                read()
            self.assertEqual(caught.exception.line, line, text)

    def test_texts(self):
        many = tuple(range(12))
        for text, book in (
            ("begin", Book(())),
            ("begin 0 1 0", Book((0, 1, 0))),
            ("begin None True False TypeError ValueError NameError unset 0",
             Book(("None", "True", "False", "TypeError", "ValueError", "NameError", "unset", 0))),
            ("begin 0\nadd:0", Book((0,), (), (("add", 0),))),
            ("begin 0\ntells 1", Book((0,), (moment("tells", 1),))),
            ("begin 0\nadd:0 neg:0 raises 0\ntells True\ntells False\nadd:0 bool:0",
             Book((0,), (moment("raises", 0, lacking=(("add", 0), ("neg", 0))), moment("tells", "True"), moment("tells", "False")),
                  (("bool", 0), ("add", 0)))),
            ("begin\n" + "\n".join(LONE), Book((), tuple(moment(word) for word in LONE))),
            ("begin 0 1 2 3 4 5 6 7 8 9 10 11\nadd:2 add:10 add:11 le:0 len:0 sub:1 tells 12\nneg:12",
             Book(many, (moment("tells", 12, lacking=(("sub", 1), ("add", 10), ("len", 0), ("le", 0), ("add", 2), ("add", 11))),), (("neg", 12),))),
        ):
            self.assertEqual(str(book), text)
            self.assertEqual(Book.read(text), book)
            self.assertEqual(book.packed(), text.encode("ascii"))
            self.assertEqual(Book.of(text.encode("ascii")), book)
        self.assertIsInstance(book.packed(), bytes)

    def test_back_and_forth(self):
        for seed in range(1000):
            book = random_book(random.Random(seed))
            self.assertEqual(Book.read(str(book)), book)
            self.assertEqual(str(Book.read(str(book))), str(book))
            self.assertEqual(Book.of(book.packed()), book)

    def test_more_than_a_hundred_things(self):
        book = Book(())
        for thing in range(130):
            book = book + moment("tells", thing)
        book = Book((), book.moments, tuple(("mul", thing) for thing in reversed(range(130))))
        self.assertEqual(book.lacking, tuple(("mul", thing) for thing in range(130)))
        self.assertEqual(Book.read(str(book)), book)

    def test_first_lines(self):
        for text in ("", "\n", " ", " begin", "begin ", "begin  0", "begin 0 ", "Begin", "begin,", "begin:0", "begin x", "begin 00", "begin 01", "begin -1",
                     "begin +1", "begin 1234567890", "begin none", "begin unset ", "begin Unset", "begin add:0", "begin KeyError", "begin 0.", "begin 1_0",
                     "tells 0", "0 1", "begin 0\t1", "begin ''"):
            self.fails(0, text)
            self.fails(0, text + "\nx")

    def test_lines(self):
        for text in ("", " ", "tells", "tells ", "tells  0", " tells 0", "tells 0 ", "tells 0 0", "tells x", "tells unset", "tells 00", "tells 01", "tells -1",
                     "tells none", "tells 1234567890", "tells add:0", "raises", "raises x", "raises unset", "raise 0", "told 0", "Tells 0", "declines 0",
                     "stop 0", "stop stop", "yes no", "no ", " no", "True", "0", "None", "unset", "asks", "x", "begin", "begin 0", "add", "add:", ":0", "add:0:0",
                     "add:x tells 0", "add:00 no", "add:-1 no", "add: 0 no", "add :0 no", "add:0, no", "add:0  no", "add:0 no ", "added:0 no", "Add:0 no",
                     "no add:0", "tells add:0 0", "tells 0 add:0", "add:1 add:0 no", "sub:0 add:0 no", "add:0 add:0 no", "add:10 add:2 no", "len:0 le:0 no",
                     "add:0 sub:0 neg:0 no", "add:0 None", "add:0 unset", "add:0 0", "add:None no", "add:1234567890 no", "add:0 x:0 no"):
            for behind in ("", "\nno", "\nx", "\nadd:0"):
                self.fails(1, f"begin 0 1 2\n{text}{behind}")
                self.fails(3, f"begin 0 1 2\nadd:0 add:1 no\ntells 3\n{text}{behind}")

    def test_lines_of_pairs_alone(self):
        self.fails(1, "begin 0\nadd:0\nno")
        self.fails(1, "begin 0\nadd:0\nadd:0")
        self.fails(2, "begin 0\nno\nadd:0 neg:0\nno")
        self.fails(1, "begin 0\nadd:0\n")
        self.fails(2, "begin 0\nno\n")
        self.fails(1, "begin 0\nadd:0 add:0")
        self.fails(1, "begin 0\nneg:0 add:0")
        self.assertEqual(Book.read("begin 0\nno\nadd:0 neg:0").lacking, (("add", 0), ("neg", 0)))

    def test_right_lines_of_no_book(self):
        for word, at, text in (
            ("begin", 0, "begin 1"), ("begin", 1, "begin 0 2"), ("begin", 0, "begin 999999999\ntells 9"), ("answer", 0, "begin\ntells None"),
            ("answer", 0, "begin 0\ntells TypeError"), ("answer", 0, "begin 0\nraises True"), ("answer", 1, "begin 0\nno\nraises NameError"),
            ("answer", 0, "begin 0\ntells 2"), ("answer", 2, "begin\ntells 0\ntells 1\ntells 3"), ("lacking", 0, "begin\nadd:0 no"),
            ("lacking", 0, "begin\nadd:0"), ("lacking", 1, "begin 0\ntells 0\nadd:1"), ("lacking", 0, "begin 0\nadd:999999999 no"),
            ("lacking", 0, "begin 0\nadd:0 neg:1 tells 1"),
        ):
            for read in (lambda: Book.read(text), lambda: Book.of(text.encode("ascii"))):
                with self.assertRaises(InvalidBook) as caught:
                    read()
                self.assertEqual((caught.exception.word, caught.exception.at), (word, at), text)
        # A line that is none comes first, wherever it stands.
        self.fails(2, "begin 1\ntells 9\nx")


if __name__ == "__main__":
    unittest.main()
