"""What holds of the whole program: arguments by name ([2]), lists for tuples, later changes, and "What is promised"."""

import inspect
import random
import unittest

from helper import Maker
from pieceasks import errors
from pieceasks.books import METHODS, Book
from pieceasks.codes import Code, compiled
from pieceasks.comparing import compare, is_alike, parts_on
from pieceasks.desk import Desk
from pieceasks.drafts import Draft, Trial, within
from pieceasks.needs import least_promises, needed
from pieceasks.papers import paper_holds, paper_of
from pieceasks.parts import exchanged, idle, part, wanted
from pieceasks.pieces import Piece
from pieceasks.promises import Promises
from pieceasks.rules import Rule
from pieceasks.runs import Run
from pieceasks.shelves import Shelf

# Everything that is called, with its arguments; those with a default in brackets.
ARGUMENTS = (
    (Piece, "params body [kept]"), (Piece.read, "text"), (Piece.is_name, "text"), (Piece.__call__, "self book"), (Book, "begin [moments] [lacking]"), (Book.read, "text"), (Book.of, "data"), (Book.upto, "self many"),
    (Book.packed, "self"), (Run, "piece begin"), (Run.ask, "self [lacking]"), (Run.tell, "self answer [lacking]"), (Run.back, "self"), (Code, "params rows [kept]"), (Code.__call__, "self book"), (compiled, "piece"),
    (compare, "one other [promises]"), (is_alike, "one other [promises]"), (parts_on, "one other book"), (paper_of, "one other [promises]"), (paper_holds, "one other promises value"), (Promises, "[pairs]"), (Promises.read, "text"),
    (Promises.kept_by, "self piece book"), (least_promises, "one other promises"), (needed, "one other promises"), (wanted, "piece at many"), (part, "piece at many"), (exchanged, "piece at many rows [promises]"),
    (idle, "piece [promises]"), (Rule, "old new"), (Rule.parting, "self [promises]"), (Rule.places, "self piece"), (Rule.used, "self piece at"), (Draft, "piece"), (Draft.lay, "self piece"), (Draft.take_out, "self at"), (Draft.undo, "self"),
    (Draft.trial, "self"), (Trial.keep, "self"), (within, "block call"), (Shelf, ""), (Shelf.drop, "self name"), (Shelf.compare, "self one other [promises]"), (Shelf.groups, "self [promises]"), (Desk, ""), (Desk.say, "self command"),
)
ERRORS = {"InvalidPiece": ("word", "at"), "InvalidText": ("line",), "InvalidBook": ("word", "at"), "InvalidCode": ("word", "row"), "InvalidPromise": ("at",), "Unlike": ("book",), "Misfit": ("word",), "InvalidCommand": (),
          "NoPlace": ("at",), "OtherShape": (), "UnknownName": ("name",)}


class ArgumentsTest(unittest.TestCase):
    def test_names(self):
        for call, names in ARGUMENTS:
            found = []
            for given in inspect.signature(call).parameters.values():
                self.assertEqual(given.kind, given.POSITIONAL_OR_KEYWORD)
                found.append(given.name if given.default is given.empty else f"[{given.name}]")
            self.assertEqual(" ".join(found), names, call)

    def test_errors(self):
        for name, attributes in ERRORS.items():
            error = getattr(errors, name)
            for values in ((None, True), ("x", -1), ((), [1])):
                given = dict(zip(reversed(attributes), values))
                told = error(**given)
                self.assertEqual({key: getattr(told, key) for key in attributes}, given)

    def test_in_another_order(self):
        """All functions of the last stages are called by name."""
        one, other = Piece.read("params x y\nx += y\nreturn x"), Piece.read("params x y\nx = x + y\nreturn x")
        bare = [("bare", "iadd")]
        self.assertTrue(paper_holds(value=paper_of(promises=bare, other=compiled(other), one=compiled(one)), promises=bare, other=compiled(other), one=compiled(one)))
        self.assertEqual([list(some) for some in least_promises(promises=bare, other=other, one=one)], [bare])
        self.assertEqual(len(needed(promises=bare, other=other, one=one)), 1)
        self.assertEqual(wanted(many=1, at=0, piece=one), ("x",))
        self.assertEqual(part(many=1, at=0, piece=one), Piece(kept=["x"], body=[("aug", "+", "x", "y")], params=["x", "y"]))
        self.assertEqual(exchanged(promises=bare, rows=[other[0]], many=1, at=0, piece=one), other)
        self.assertEqual(list(idle(promises=bare, piece=one + (("pass",),))), [2])
        rule = Rule(new=part(many=1, at=0, piece=other), old=part(many=1, at=0, piece=one))
        self.assertIsNone(rule.parting(promises=bare))
        self.assertEqual((list(rule.places(piece=one)), rule.used(at=0, piece=one)), ([0], other))
        draft = Draft(piece=one)
        draft.lay(piece=other)
        draft.take_out(at=1)
        within(call=lambda given: given.keep(), block=draft.trial())
        self.assertEqual((draft.piece, len(draft)), (Piece.read("params x y\nx = x + y"), 2))
        shelf = Shelf()
        shelf["f"], shelf["g"] = str(one), str(other)
        self.assertIsNone(shelf.compare(promises=bare, other="g", one="f"))
        self.assertEqual(shelf.groups(promises=bare), (("f", "g"),))
        shelf.drop(name="f")
        self.assertEqual(Desk().say(command="keep f params ; pass"), "1 statements")

    def test_later_changes(self):
        """What is handed in may be changed later, and so may lists and dicts that were returned."""
        rows, vows = [("pass",)], [("bare", "iadd")]
        piece = Piece.read("params x y\nNone\nreturn x")
        told = exchanged(piece, 0, 1, rows, vows)
        given = idle(piece, vows)
        rows.append(None)
        self.assertEqual((told.body[:2], len(told)), ((("pass",), ("return", "x")), 2))
        self.assertEqual(list(given), [0])
        shelf = Shelf()
        shelf["f"] = shelf["g"] = str(piece)
        shelf.compare("f", "g", vows)
        vows.append(("calm", "add"))
        shelf.compare("f", "g", vows)
        shelf.compare("f", "g", vows)
        self.assertEqual(shelf.count, 2)
        draft = Draft(piece)
        draft += rows[:1]
        rows.clear()
        self.assertEqual(len(draft.piece), 3)
        found = needed(piece, piece, vows)
        found.clear()
        self.assertEqual(len(needed(piece, piece, vows)), 2)

    def test_nothing_changes(self):
        """Pieces, books, codes, promises and rules have nothing that may be set."""
        piece, code = Piece.read("params x\nkept x\nx"), compiled(Piece.read("params x\nx"))
        rule = Rule(piece, piece)
        for thing, names in ((piece, "params kept body shape names"), (Book((0,)), "begin moments lacking"), (code, "params rows kept shape"), (rule, "old new")):
            for name in names.split():
                with self.assertRaises(AttributeError):
                    setattr(thing, name, ())


class PromisedTest(unittest.TestCase):
    """What stands under "What is promised" at the head of the document, on pieces made at random."""

    VOWS = (("bare", "iadd"), ("bare", "isub"), ("bare", "imul"), ("calm", "call"), ("has", "call"), ("bare", "bool"), ("bare", "len"), ("calm", "add"))

    def books(self, dice, piece):
        """Books on which pieces with these params may be walked."""
        for _ in range(4):
            begin, many = [], 0
            for _ in piece.params:
                begin.append(dice.choice([*range(many + 1)] + ([] if piece.kept is None else ["None", "TypeError", "unset"])))
                many += begin[-1] == many
            lacking = tuple((dice.choice(METHODS), dice.randrange(many)) for _ in range(dice.choice((0, 0, 12)))) if many else ()
            book, run, moments = Book(tuple(begin), (), lacking), Run(piece, tuple(begin)), []
            for _ in range(5):
                yield book
                call = run.ask(lacking)
                if call[0] not in METHODS:
                    break
                for answer in dice.sample((("tells", dice.randrange(many + 1)), ("tells", "True"), ("raises", dice.randrange(many + 1)), ("yes",), ("no",), ("some",), ("done",), ("stop",), ("declines",)), 9):
                    try:
                        run.tell(answer, lacking)
                    except errors.InvalidBook:
                        continue
                    break
                many += answer[-1] == many
                moments.append((lacking, answer))
                book = Book(tuple(begin), moments, lacking)

    def test_pieces(self):
        found = {True: 0, False: 0}
        for seed in range(300):
            dice = random.Random(seed)
            maker = Maker(dice, ("x", "y", "z"), dice.random() < 0.4)
            kept = dice.choice((None, None, ("x",)))
            one = Piece(("x", "y"), maker.body(2, False, False, 3), kept)
            rows = list(one.body)
            at = dice.randrange(len(rows))
            if rows[at][0] == "aug":
                rows[at] = ("set", rows[at][2], rows[at][1:])
            elif dice.random() < 0.5:
                rows[at] = ("finally", (rows[at],), (("pass",),))
            else:
                rows.pop(at)
            if len(one) > 6 or not rows:
                continue
            other = Piece(("x", "y"), rows, kept)
            vows = tuple(dice.sample(self.VOWS, 3))
            books = list(self.books(dice, one))
            self.check_codes((one, other), books)
            alike = is_alike(one, other, vows)
            found[alike] += 1
            # With more promises, what was alike stays alike.
            sets = [vows[:many] for many in range(4)]
            told = [is_alike(one, other, some) for some in sets]
            self.assertEqual(told, sorted(told))
            if alike:
                self.check_alike(one, other, vows, books)
        self.assertTrue(found[True] > 10 and found[False] > 10, found)

    def check_codes(self, pieces, books):
        """A code makes the same calls as its piece, and ends alike."""
        for piece in pieces:
            code = compiled(piece)
            for book in books:
                try:
                    told = piece(book)
                except errors.InvalidBook as error:
                    with self.assertRaises(errors.InvalidBook) as caught:
                        code(book)
                    self.assertEqual((caught.exception.word, caught.exception.at), (error.word, error.at))
                else:
                    self.assertEqual(code(book), told)
            self.assertIsNone(compare(piece, code))

    def check_alike(self, one, other, vows, books):
        """Alike ones do not part on books on which both keep the promises; papers hold; parts stay alike."""
        promises = Promises(vows)
        for book in books:
            try:
                parts = parts_on(one, other, book)
                kept = promises.kept_by(one, book) and promises.kept_by(other, book)
            except errors.InvalidBook:
                continue
            self.assertFalse(parts and kept, (str(one), str(other), str(book)))
        paper = paper_of(compiled(one), compiled(other), vows)
        self.assertTrue(paper_holds(compiled(one), compiled(other), vows, paper))
        for some in least_promises(one, other, vows):
            self.assertTrue(some <= promises and is_alike(one, other, some))
            self.assertFalse(any(is_alike(one, other, some - (vow,)) for vow in some))
        for at in idle(one, vows):
            self.assertIsNone(compare(one, exchanged(one, at, 1, (("pass",),), vows), vows))


if __name__ == "__main__":
    unittest.main()
