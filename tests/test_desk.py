"""The desk: [43] and [44]."""

import unittest

from pieceasks.books import Book
from pieceasks.comparing import parts_on
from pieceasks.desk import Desk
from pieceasks.errors import InvalidBook, InvalidCommand, InvalidPiece, InvalidPromise, InvalidText, OtherShape, UnknownName
from pieceasks.pieces import Piece

KEPT = {"f": "params x y ; x += y ; return x", "g": "params x y ; return x + y", "one": "params x ; while x: ; .if x(): ; ..break ; .else: ; ..x.w ; return x", "part": "params x y ; kept x y z ; x[y] = x",
        "other": "params a b ; kept a b c ; a = b", "lost": "params x y ; kept x y z ; x = z", "under": "params x y ; return y", "end": "params x ; kept ; x()", "loop": "params ; while True: ; .pass", "all": "params x ; del x[x] ; x(x, x) ; x.w = x ; raise x == None"}


class DeskTest(unittest.TestCase):
    def setUp(self):
        self.desk = Desk()
        for name, text in KEPT.items():
            self.desk.say(f"keep {name} {text}")

    def fails(self, error, command, **attributes):
        """A command fails, and nothing changes."""
        before = [self.desk.say(f"show {name}") for name in KEPT]
        with self.assertRaises(error) as caught:
            self.desk.say(command)
        self.assertEqual({name: getattr(caught.exception, name) for name in attributes}, attributes, command)
        self.assertEqual([self.desk.say(f"show {name}") for name in KEPT], before)

    def said(self, command, answer):
        told = self.desk.say(command)
        self.assertIs(type(told), str)
        self.assertEqual(told, answer, command)

    def test_example(self):
        desk = Desk()
        self.assertEqual((desk.say("keep f params x y ; x += y ; return x"), desk.say("keep g params x y ; return x + y")), ("2 statements", "1 statements"))
        self.assertEqual((desk.say("compare f g under bare iadd"), desk.say("walk g begin 0 1 ; tells 2")), ("alike", "add:0:1 returns:2"))
        self.assertEqual(desk.say(command="show f"), "params x y ; x += y ; return x")

    def test_keep_and_show(self):
        for name, text in KEPT.items():
            self.said(f"show {name}", text)
        for text, many in (("params ; pass", 1), ("params ; pass ; pass", 2), ("params x ; if x: ; .pass ; else: ; .pass", 3), ("params ; try: ; .try: ; ..try: ; ...x ; ..except: ; ...y ; .finally: ; ..z ; except as w: ; .w", 7),
                           ("params ; kept ; with x as y: ; .y", 2)):
            self.said(f"keep new {text}", f"{many} statements")
            self.said("show new", text)
        self.said("keep under params ; under", "1 statements")
        self.said("show under", "params ; under")
        self.said("keep keep params ; keep", "1 statements")
        self.said("show keep", "params ; keep")

    def test_texts_that_are_refused(self):
        for text, line in (("x", 0), ("params", 1), ("params ; if x: ; x", 2), ("params ; .x", 1), ("params ; if x: ; ..x", 2), ("params ;", 0), ("; params ; pass", 0), ("params ; ; pass", 1), ("params x, y ; pass", 0), (";", 0), (".params ; pass", 0),
                           ("params ; pass ; x =", 2), ("params ; x. w", 1), ("params ; x;y", 1), ("params ;pass", 0), (". params", 0), ("params ; .", 1), ("params ; if x: ; . x", 2), ("params ; kept", 2), ("params ; pass .", 1)):
            self.fails(InvalidText, f"keep f {text}", line=line)
        for text, word, at in (("params x x ; pass", "param", 1), ("params ; kept x x ; pass", "kept", 1), ("params ; if x: ; .break", "loose", 1), ("params ; try: ; .x ; finally: ; .return x", "loose", 2)):
            self.fails(InvalidPiece, f"keep f {text}", word=word, at=at)
            self.fails(InvalidPiece, f"keep new {text}", word=word, at=at)
        self.fails(UnknownName, "show new", name="new")

    def test_show_errors(self):
        self.fails(UnknownName, "show x", name="x")
        for command in ("show", "show f g", "show as", "show F", "show f1", "show toolong", "show f ;", "show params"):
            self.fails(InvalidCommand, command)

    def test_compare(self):
        for command in ("compare f g under bare iadd", "compare g f under bare iadd, calm add", "compare f f", "compare under under", "compare under under under bare iadd", "compare one one under calm call", "compare part part"):
            self.said(command, "alike")
        for one, other, rest in (("f", "g", ""), ("f", "under", ""), ("under", "f", " under bare iadd"), ("g", "under", " under bare add, bare radd"), ("part", "other", ""), ("under", "g", " under calm add")):
            told = self.desk.say(f"compare {one} {other}{rest}")
            book = Book.read(told.replace(" ; ", "\n"))
            self.assertEqual(str(book).replace("\n", " ; "), told)
            pieces = [Piece.read("\n".join(line.replace(".", " ") if line.startswith(".") else line for line in KEPT[name].split(" ; "))) for name in (one, other)]
            self.assertTrue(parts_on(*pieces, book))
        self.said("compare f g", "begin 0 1")
        self.desk.say("keep a params x ; x() ; x() ; x(x)")
        self.desk.say("keep b params x ; x() ; x() ; x()")
        told = self.desk.say("compare a b")
        self.assertEqual((told.count(" ; "), told.split(" ; ")[0]), (2, "begin 0"))

    def test_compare_errors(self):
        for command in ("compare", "compare f", "compare f g h", "compare f g under", "compare f under g bare iadd", "compare f g bare iadd", "compare f g with bare iadd", "compare f g Under bare iadd", "compare F g", "compare f as",
                        "compare f g1 under bare iadd", "compare f g under under", "compare f toolong"):
            if command == "compare f g under under":
                self.fails(InvalidPromise, command, at=0)
            else:
                self.fails(InvalidCommand, command)
        self.fails(UnknownName, "compare no f under x", name="no")
        self.fails(UnknownName, "compare f no under x", name="no")
        self.fails(UnknownName, "compare no nope", name="no")
        self.fails(UnknownName, "compare one no", name="no")
        for rest, at in (("x", 0), ("bare add calm sub", 0), ("bare add,calm sub", 0), ("bare add, calm add", 1), ("bare add, bare sub, truth add", 2), (",", 0), ("bare iadd,", 0), ("bare iadd ; calm add", 0), (".bare iadd", 0)):
            self.fails(InvalidPromise, f"compare f g under {rest}", at=at)
            self.fails(InvalidPromise, f"compare f one under {rest}", at=at)
        self.fails(OtherShape, "compare f one")
        self.fails(OtherShape, "compare f part under bare iadd")
        self.fails(OtherShape, "compare part end")

    def test_walk(self):
        for command, answer in (
            ("walk g begin 0 1 ; tells 2", "add:0:1 returns:2"), ("walk g begin 0 1", "add:0:1"), ("walk g begin 0 1 ; add:0", "radd:1:0"), ("walk g begin 0 1 ; add:0 radd:1", "raises:TypeError"), ("walk g begin 0 1 ; declines ; tells 0", "add:0:1 radd:1:0 returns:0"),
            ("walk f begin 0 0 ; raises 1 ; yes", "iadd:0:0 raises:1"), ("walk one begin 0 ; yes ; tells 1 ; no ; tells 2", "bool:0 call:0 bool:1 getattr:0:.w bool:0"), ("walk one begin 0 ; no", "bool:0 returns:0"),
            ("walk one begin 0 ; bool:0 len:0 tells 1 ; yes", "call:0 bool:1 returns:0"), ("walk loop begin", "endless"), ("walk part begin 0 1", "setitem:0:1:0"), ("walk part begin 0 1 ; done", "setitem:0:1:0 falls:None:0:1:unset"), ("walk lost begin 0 1", "raises:NameError:0:1:unset"), ("walk lost begin 0 unset", "raises:NameError:0:unset:unset"),
            ("walk lost begin None TypeError", "raises:NameError:None:TypeError:unset"), ("walk end begin 0 ; tells 0", "call:0 falls:None"), ("walk end begin 0 ; raises 0", "call:0 raises:0"), ("walk end begin unset", "raises:NameError"),
            ("walk all begin 0 ; done ; tells 1 ; done ; tells True ; done", "delitem:0:0 call:0:0:0 setattr:0:.w:0 eq:0:None raises:TypeError"), ("walk all begin 0 ; done ; tells 1 ; done ; tells 2", "delitem:0:0 call:0:0:0 setattr:0:.w:0 eq:0:None raises:2"),
        ):
            self.said(command, answer)
        self.desk.say("keep k params x ; kept x y z ; y = x() ; z = -y")
        self.said("walk k begin 0 ; tells 1 ; tells 0", "call:0 neg:1 falls:None:0:1:0")
        self.desk.say("keep k params x ; kept x y ; y = None ; return x")
        self.said("walk k begin ValueError", "returns:ValueError:ValueError:None")

    def test_walk_errors(self):
        for command in ("walk", "walk g", "walk F begin", "walk as begin 0", "walk g1 begin 0 1"):
            self.fails(InvalidCommand, command)
        self.fails(UnknownName, "walk no x", name="no")
        for book, line in (("x", 0), ("begin x", 0), ("begin 0 1 ; tells", 1), ("begin 0 1 ; ; tells 2", 1), (".begin 0 1", 0), ("begin 0 1 ; .tells 2", 1), ("begin 0 1 ;", 0), ("begin 0 1 ; tells 2 ; ; tells 3", 2), ("; begin", 0), ("begin 0 1;tells 2", 0)):
            self.fails(InvalidText, f"walk g {book}", line=line)
        for book, word, at in (("begin 1 0", "begin", 0), ("begin 0", "begin", 1), ("begin 0 1 2", "begin", 2), ("begin 0 unset", "begin", 1), ("begin 0 1 ; tells 3", "answer", 0), ("begin 0 1 ; add:2 tells 2", "lacking", 0), ("begin 0 1 ; yes", "answer", 0)):
            self.fails(InvalidBook, f"walk g {book}", word=word, at=at)

    def test_least(self):
        for command, answer in (
            ("least f g under bare iadd, calm add", "bare iadd"), ("least g f under calm add", "none"), ("least f f under bare iadd, calm add", "-"), ("least under under under bare add", "-"), ("least f g under bare iadd", "bare iadd"),
            ("least part part under truth eq", "-"), ("least part other under bare setitem", "none"),
        ):
            self.said(command, answer)
        self.desk.say("keep a params x y ; try: ; .x() ; except: ; .y[y]")
        self.desk.say("keep b params x y ; try: ; .x() ; except: ; .None[None]")
        self.said("least a b under has call, bare getitem, calm call", "bare getitem / calm call, has call")

    def test_least_errors(self):
        for command in ("least", "least f", "least f g", "least f g under", "least f g bare iadd", "least f g h under bare iadd", "least f under bare iadd", "least F g under bare iadd", "least f g Under bare iadd", "least f as under bare iadd"):
            self.fails(InvalidCommand, command)
        self.fails(UnknownName, "least no f under x", name="no")
        self.fails(UnknownName, "least f no under x", name="no")
        self.fails(UnknownName, "least one no under bare iadd", name="no")
        for rest, at in (("x", 0), ("bare add, calm add", 1), ("bare add, bare", 1), ("bare iadd,calm add", 0)):
            self.fails(InvalidPromise, f"least f g under {rest}", at=at)
            self.fails(InvalidPromise, f"least f one under {rest}", at=at)
        self.fails(OtherShape, "least f one under bare iadd")
        self.fails(OtherShape, "least f part under bare iadd")

    def test_no_commands(self):
        for command in ("", " ", "f", "say f", "Keep f params ; pass", "keep", "keep f", "keep f ", " keep f params ; pass", "keep  f params ; pass", "keep f  params ; pass", "keep f params  ; pass", "keep f params ;  pass", "keep f params ; pass ", "keep f params\npass",
                        "keep f params ; pass\n", "\nshow f", "show\nf", "show f\n", "show  f", "show f ", " show f", "keep as params ; pass", "keep F params ; pass", "keep toolong params ; pass", "keep f1 params ; pass", "keep ; params ; pass", "walk  g begin 0 1",
                        "walk g begin  0 1", "walk g begin 0 1 ", "walk g begin 0 1 ;  tells 2", "walk g begin 0 1\ntells 2", "compare f  g", "compare f g ", "compare f g under ", "compare f g under bare  iadd", "compare f g under bare iadd,  calm add", "compare f g\n",
                        "least f g under bare iadd ", "least f g  under bare iadd", "drop f", "f = g", "compare\nf g", "show.f", "keepf params ; pass", "under f g"):
            self.fails(InvalidCommand, command)

    def test_behind_refused_commands(self):
        self.fails(InvalidText, "keep f params ; x =", line=1)
        self.fails(InvalidCommand, "keep g  params ; pass")
        self.said("compare f g under bare iadd", "alike")
        self.said("walk f begin 0 1", "iadd:0:1")
        self.said("keep f params x y ; return x + y", "1 statements")
        self.said("compare f g", "alike")
        self.assertEqual(Desk().say("keep f params ; pass"), "1 statements")
        with self.assertRaises(UnknownName):
            Desk().say("show f")


if __name__ == "__main__":
    unittest.main()
