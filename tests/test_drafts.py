"""Drafts and trials: [40] and [41]."""

import random
import unittest

from helper import Maker
from pieceasks.drafts import Draft, Trial, within
from pieceasks.errors import InvalidPiece, NoPlace
from pieceasks.pieces import Piece

PASS = ("pass",)
TEXT = "params x y\nx\nif x:\n y\n x\nelse:\n y\nwhile x:\n y\nreturn x"


class Drafts(unittest.TestCase):
    def setUp(self):
        self.piece = Piece.read(TEXT)
        self.draft = Draft(self.piece)

    def fails(self, error, call, **attributes):
        """The call fails, and nothing changes."""
        before = str(self.draft.piece), len(self.draft)
        with self.assertRaises(error) as caught:
            call()
        self.assertEqual({name: getattr(caught.exception, name) for name in attributes}, attributes)
        self.assertEqual((str(self.draft.piece), len(self.draft)), before)

    def is_now(self, text, many):
        self.assertEqual(str(self.draft.piece), text)
        self.assertEqual(len(self.draft), many)


class DraftTest(Drafts):
    def test_items(self):
        self.assertIs(type(self.draft.piece), Piece)
        self.assertEqual((self.draft.piece, len(self.draft)), (self.piece, 0))
        for at in range(8):
            self.assertEqual(self.draft[at], self.piece[at])
        for at in (-1, 8, 9, -8, 100):
            self.fails(NoPlace, lambda: self.draft[at], at=at)
        self.assertEqual(Draft(piece=self.piece).piece, self.piece)

    def test_setting(self):
        for at, text in ((0, "params x y\nx()\nif x:\n y\n x\nelse:\n y\nwhile x:\n y\nreturn x"), (1, "params x y\nx\nx()\nwhile x:\n y\nreturn x"), (2, "params x y\nx\nif x:\n x()\n x\nelse:\n y\nwhile x:\n y\nreturn x"),
                         (3, "params x y\nx\nif x:\n y\n x()\nelse:\n y\nwhile x:\n y\nreturn x"), (4, "params x y\nx\nif x:\n y\n x\nelse:\n x()\nwhile x:\n y\nreturn x"),
                         (5, "params x y\nx\nif x:\n y\n x\nelse:\n y\nx()\nreturn x"), (6, "params x y\nx\nif x:\n y\n x\nelse:\n y\nwhile x:\n x()\nreturn x"), (7, "params x y\nx\nif x:\n y\n x\nelse:\n y\nwhile x:\n y\nx()")):
            draft = Draft(self.piece)
            draft[at] = ("do", ("call", "x", ()))
            self.assertEqual((str(draft.piece), len(draft)), (text, 1))
        self.assertEqual(str(self.piece), TEXT)
        self.draft[1] = ("while", "x", (PASS, ("break",)), ())
        self.is_now("params x y\nx\nwhile x:\n pass\n break\nwhile x:\n y\nreturn x", 1)
        self.draft[3] = ("continue",)
        self.is_now("params x y\nx\nwhile x:\n pass\n continue\nwhile x:\n y\nreturn x", 2)
        self.assertEqual(self.draft[3], ("continue",))

    def put(self, at, statement):
        self.draft[at] = statement

    def add(self, rows):
        self.draft += rows

    def test_setting_what_is_wrong(self):
        for at in (-1, 8, 20, -8):
            self.fails(NoPlace, lambda: self.put(at, PASS), at=at)
            self.fails(NoPlace, lambda: self.put(at, None), at=at)
        for at in range(8):
            for wrong in (None, 0, "", "pass", (), ("pass", "pass"), ["pass"], ("set", "x"), ("do", "as"), ("if", "x", (), ()), (PASS,), True):
                self.fails(InvalidPiece, lambda: self.put(at, wrong), word="form", at=at)
            if at != 6:
                self.fails(InvalidPiece, lambda: self.put(at, ("break",)), word="loose", at=at)
            self.fails(InvalidPiece, lambda: self.put(at, ("if", "x", (PASS, None), ())), word="form", at=at + 2)
        self.draft[6] = ("break",)
        self.fails(InvalidPiece, lambda: self.put(5, ("if", "x", (("break",),), ())), word="loose", at=6)

    def test_taking_out(self):
        for at, text in ((0, "params x y\nif x:\n y\n x\nelse:\n y\nwhile x:\n y\nreturn x"), (1, "params x y\nx\nwhile x:\n y\nreturn x"), (2, "params x y\nx\nif x:\n x\nelse:\n y\nwhile x:\n y\nreturn x"),
                         (3, "params x y\nx\nif x:\n y\nelse:\n y\nwhile x:\n y\nreturn x"), (4, "params x y\nx\nif x:\n y\n x\nwhile x:\n y\nreturn x"), (5, "params x y\nx\nif x:\n y\n x\nelse:\n y\nreturn x"),
                         (6, "params x y\nx\nif x:\n y\n x\nelse:\n y\nwhile x:\n pass\nreturn x"), (7, "params x y\nx\nif x:\n y\n x\nelse:\n y\nwhile x:\n y")):
            draft = Draft(self.piece)
            self.assertIsNone(draft.take_out(at))
            self.assertEqual((str(draft.piece), len(draft)), (text, 1))
        for at in (-1, 8, 100):
            self.fails(NoPlace, lambda: self.draft.take_out(at=at), at=at)

    def test_bodies_that_would_be_empty(self):
        for text, at, expected in (
            ("params\nx", 0, "params\npass"), ("params\npass", 0, "params\npass"), ("params\nif x:\n x", 1, "params\nif x:\n pass"), ("params\nif x:\n x\nelse:\n x", 1, "params\nif x:\n pass\nelse:\n x"),
            ("params\nif x:\n x\nelse:\n x", 2, "params\nif x:\n x"), ("params\nwhile x:\n x\nelse:\n x", 2, "params\nwhile x:\n x"), ("params\nfor x in x:\n x\nelse:\n x", 2, "params\nfor x in x:\n x"),
            ("params\nfor x in x:\n x", 1, "params\nfor x in x:\n pass"), ("params\nwith x:\n x", 1, "params\nwith x:\n pass"), ("params\ntry:\n x\nexcept:\n y", 1, "params\ntry:\n pass\nexcept:\n y"),
            ("params\ntry:\n x\nexcept as y:\n y", 2, "params\ntry:\n x\nexcept as y:\n pass"), ("params\ntry:\n x\nfinally:\n y", 1, "params\ntry:\n pass\nfinally:\n y"), ("params\ntry:\n x\nfinally:\n y", 2, "params\ntry:\n x\nfinally:\n pass"),
            ("params x\nkept x\nif x:\n while x:\n  x\nelse:\n if x:\n  x\n else:\n  y", 4, "params x\nkept x\nif x:\n while x:\n  x\nelse:\n if x:\n  pass\n else:\n  y"),
            ("params x\nkept x\nif x:\n while x:\n  x\nelse:\n if x:\n  x\n else:\n  y", 3, "params x\nkept x\nif x:\n while x:\n  x"), ("params\nif x:\n if x:\n  x", 1, "params\nif x:\n pass"),
        ):
            draft = Draft(Piece.read(text))
            draft.take_out(at)
            self.assertEqual((str(draft.piece), len(draft)), (expected, 1))

    def test_putting_behind(self):
        same = self.draft
        self.draft += (PASS,)
        self.assertIs(self.draft, same)
        self.is_now(TEXT + "\npass", 1)
        self.draft += [("do", "x"), ("while", "x", (("break",),), ())]
        self.is_now(TEXT + "\npass\nx\nwhile x:\n break", 2)
        self.draft += ()
        self.draft += []
        self.is_now(TEXT + "\npass\nx\nwhile x:\n break", 4)
        for rows, word, at in (((None,), "form", 12), ((PASS, ("break",)), "loose", 13), ([("do", "x"), "x"], "form", 13)):
            self.fails(InvalidPiece, lambda: self.add(rows), word=word, at=at)
        rows = [PASS]
        self.draft += rows
        rows.append(None)
        self.is_now(TEXT + "\npass\nx\nwhile x:\n break\npass", 5)
        self.assertEqual([self.draft.undo() for _ in range(6)], [True] * 5 + [False])
        self.is_now(TEXT, 0)

    def test_lay(self):
        other = Piece.read("params\nkept\npass")
        self.assertIsNone(self.draft.lay(piece=other))
        self.is_now(str(other), 1)
        self.draft.lay(other)
        self.is_now(str(other), 2)
        self.draft.take_out(0)
        self.is_now(str(other), 3)
        self.assertEqual([self.draft.undo(), self.draft.undo()], [True, True])
        self.is_now(str(other), 1)
        self.assertIs(self.draft.undo(), True)
        self.is_now(TEXT, 0)

    def test_undo(self):
        self.assertIs(self.draft.undo(), False)
        self.is_now(TEXT, 0)
        texts = [TEXT]
        for act in (lambda: self.put(0, PASS), lambda: self.draft.take_out(1), lambda: self.add((PASS, PASS)), lambda: self.draft.lay(Piece.read("params\npass")), lambda: self.add(())):
            act()
            texts.append(str(self.draft.piece))
        for many in (5, 4, 3, 2, 1):
            self.is_now(texts[many], many)
            self.assertIs(self.draft.undo(), True)
        self.assertIs(self.draft.undo(), False)
        self.is_now(TEXT, 0)
        self.draft.take_out(0)
        self.is_now(texts[0].replace("\nx\nif", "\nif"), 1)

    def test_not_iterated(self):
        with self.assertRaises(TypeError):
            list(self.draft)


class Broken(Exception):
    pass


class TrialTest(Drafts):
    def test_left_without_keep(self):
        self.draft.take_out(0)
        before = str(self.draft.piece)
        trial = self.draft.trial()
        self.assertIs(type(trial), Trial)
        with trial as given:
            self.assertIs(given, trial)
            self.is_now(before, 1)
            self.draft.take_out(0)
            self.draft.lay(self.piece)
            self.is_now(TEXT, 3)
        self.is_now(before, 1)
        self.assertIs(self.draft.undo(), True)
        self.is_now(TEXT, 0)

    def test_left_with_keep(self):
        self.draft.take_out(0)
        with self.draft.trial() as given:
            self.draft.take_out(0)
            self.assertIsNone(given.keep())
            self.draft += (PASS,)
        self.is_now("params x y\nwhile x:\n y\nreturn x\npass", 3)
        self.assertEqual([self.draft.undo() for _ in range(4)], [True, True, True, False])
        self.is_now(TEXT, 0)

    def test_left_by_an_error(self):
        for keeps in (False, True):
            for error, act in ((NoPlace, lambda: self.draft.take_out(99)), (InvalidPiece, lambda: self.draft.lay(self.draft.piece + (None,))), (Broken, self.breaks)):
                with self.assertRaises(error):
                    with self.draft.trial() as given:
                        self.draft.take_out(0)
                        if keeps:
                            given.keep()
                        act()
                self.is_now(TEXT, 0)
                self.assertIs(self.draft.undo(), False)
        # An error that is caught within the block does not leave it.
        with self.draft.trial() as given:
            self.draft.take_out(0)
            with self.assertRaises(NoPlace):
                self.draft.take_out(99)
            given.keep()
        self.is_now(TEXT.replace("\nx\nif", "\nif"), 1)

    def breaks(self):
        raise Broken

    def test_undo_within(self):
        self.draft.take_out(0)
        self.draft.take_out(0)
        with self.draft.trial():
            self.assertIs(self.draft.undo(), False)
            self.is_now("params x y\nwhile x:\n y\nreturn x", 2)
            self.draft.take_out(0)
            self.draft.take_out(0)
            self.assertEqual([self.draft.undo(), self.draft.undo(), self.draft.undo()], [True, True, False])
            self.draft.take_out(0)
        self.is_now("params x y\nwhile x:\n y\nreturn x", 2)
        with self.draft.trial() as given:
            self.draft.take_out(0)
            self.draft.take_out(0)
            self.assertIs(self.draft.undo(), True)
            given.keep()
            self.assertIs(self.draft.undo(), True)
            self.assertIs(self.draft.undo(), False)
        self.assertEqual([self.draft.undo(), self.draft.undo(), self.draft.undo()], [True, True, False])
        self.is_now(TEXT, 0)

    def test_within_one_another(self):
        for outer_keeps in (False, True):
            for inner_keeps in (False, True):
                self.setUp()
                with self.draft.trial() as outer:
                    self.draft += (("do", "x"),)
                    with self.draft.trial() as inner:
                        self.assertIs(self.draft.undo(), False)
                        self.draft += (("do", "y"),)
                        self.is_now(TEXT + "\nx\ny", 2)
                        if inner_keeps:
                            inner.keep()
                    self.is_now(TEXT + "\nx" + ("\ny" if inner_keeps else ""), 1 + inner_keeps)
                    self.draft += (PASS,)
                    if outer_keeps:
                        outer.keep()
                if outer_keeps:
                    self.is_now(TEXT + "\nx" + ("\ny" if inner_keeps else "") + "\npass", 2 + inner_keeps)
                else:
                    self.is_now(TEXT, 0)

    def test_keeping_from_an_inner_block(self):
        with self.draft.trial() as outer:
            self.draft.take_out(7)
            with self.draft.trial():
                self.draft.take_out(0)
                outer.keep()
            self.is_now(TEXT.replace("\nreturn x", ""), 1)
        self.is_now(TEXT.replace("\nreturn x", ""), 1)

    def test_entered_again(self):
        trial = self.draft.trial()
        with trial as given:
            self.draft.take_out(0)
            given.keep()
        first = str(self.draft.piece)
        self.is_now(first, 1)
        # What was kept before counts no more, nor does keeping outside of the block.
        trial.keep()
        with trial:
            self.draft.take_out(0)
        self.is_now(first, 1)
        trial.keep()
        with trial:
            self.assertIs(self.draft.undo(), False)
            self.draft.take_out(0)
            trial.keep()
        self.is_now("params x y\nwhile x:\n y\nreturn x", 2)
        self.draft.undo()
        self.draft.undo()
        with trial:
            self.draft += ()
        self.is_now(TEXT, 0)

    def test_within(self):
        def acts(given):
            self.assertIs(type(given), Trial)
            self.draft.take_out(0)
            given.keep()
            return "told", given

        trial = self.draft.trial()
        self.assertEqual(within(trial, acts), ("told", trial))
        self.is_now(TEXT.replace("\nx\nif", "\nif"), 1)
        self.assertIsNone(within(call=lambda given: self.draft.take_out(0), block=trial))
        self.is_now(TEXT.replace("\nx\nif", "\nif"), 1)
        with self.assertRaises(Broken):
            within(trial, lambda given: self.breaks())
        self.assertEqual(within(trial, lambda given: within(self.draft.trial(), lambda inner: (given, inner is given))), (trial, False))
        # Any block is entered so.
        class Other:
            def __enter__(self):
                return 7

            def __exit__(self, *told):
                self.told = told
                return True

        other = Other()
        self.assertEqual(within(other, lambda given: given + 1), 8)
        self.assertEqual(other.told, (None, None, None))

    def test_at_random(self):
        """Against a plain list of all pieces."""
        for seed in range(60):
            dice = random.Random(seed)
            maker = Maker(dice, ("x", "y"))
            self.draft = Draft(Piece(("x",), maker.body(2, False, False, 3)))
            self.strolls(dice, maker, [self.draft.piece], 1, 3)

    def strolls(self, dice, maker, pieces, floor, deep):
        for _ in range(dice.randrange(1, 9)):
            way = dice.randrange(7)
            at = dice.randrange(-1, len(pieces[-1]) + 1)
            if way == 0:
                self.assertIs(self.draft.undo(), len(pieces) > floor)
                if len(pieces) > floor:
                    pieces.pop()
            elif way == 1:
                rows = maker.body(1, False, False, 1) if dice.random() < 0.7 else ()
                self.draft += rows
                pieces.append(Piece(("x",), pieces[-1].body + rows))
            elif way == 2:
                pieces.append(Piece(("x",), maker.body(1, False, False)))
                self.draft.lay(pieces[-1])
            elif way in (3, 4) and deep > 0:
                keeps, breaks, inner = dice.random() < 0.5, dice.random() < 0.3, list(pieces)
                try:
                    with self.draft.trial() as given:
                        self.strolls(dice, maker, inner, len(inner), deep - 1)
                        if keeps:
                            given.keep()
                        if breaks:
                            raise Broken
                except Broken:
                    pass
                if keeps and not breaks:
                    pieces = self.replaced(pieces, inner)
            else:
                statement = dice.choice((PASS, ("do", "x"), ("break",), None))
                try:
                    if way == 5:
                        self.draft.take_out(at)
                    else:
                        self.draft[at] = statement
                except NoPlace as error:
                    self.assertEqual((error.at, at in pieces[-1]), (at, False))
                except InvalidPiece as error:
                    self.assertEqual(error.at, at)
                else:
                    self.assertTrue(at in pieces[-1])
                    if way == 6:
                        self.assertEqual(self.draft[at], statement)
                    pieces.append(self.draft.piece)
            self.assertEqual((self.draft.piece, len(self.draft)), (pieces[-1], len(pieces) - 1))

    def replaced(self, pieces, others):
        pieces[:] = others
        return pieces


if __name__ == "__main__":
    unittest.main()
