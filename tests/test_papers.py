"""Papers: [31] and [32]."""

import random
import unittest

import paper_check
from helper import Maker
from pieceasks.books import Book
from pieceasks.codes import Code, compiled
from pieceasks.comparing import compare, parts_on
from pieceasks.errors import InvalidCode, InvalidPromise, OtherShape, Unlike
from pieceasks.papers import paper_holds, paper_of
from pieceasks.pieces import Piece
from pieceasks.promises import Promises

NEG = (("raises", 2), ("tells", 2))
VOWS = ((), (("bare", "iadd"), ("bare", "isub"), ("bare", "imul")), (("calm", "bool"), ("calm", "len")), (("bare", "bool"), ("bare", "len"), ("bare", "eq")),
        (("calm", "call"), ("has", "call"), ("calm", "add")), (("itself", "call"), ("truth", "eq"), ("takes", "add")))
ODD_THINGS = (0, 1, 2, "None", "True", "TypeError", True, "unset", "x", None, ("None",))


def code(text):
    return compiled(Piece.read(text))


def shuffled(given, dice):
    """The rows of a code in another order, each followed by a jump where it went on with the next one."""
    order = list(range(1, len(given.rows)))
    dice.shuffle(order)
    places, many = {}, 0
    for at in [0] + order:
        places[at] = many
        many += 2 if given.rows[at][0] in ("move", "unset") else 1
    rows = []
    for at in [0] + order:
        row = given.rows[at]
        if row[0] in ("move", "unset"):
            rows += [row, ("jump", places[at + 1])]
        elif row[0] == "ask":
            rows.append(row[:4] + (tuple((word, places[goal]) for word, goal in row[4]),))
        elif row[0] == "jump":
            rows.append(("jump", places[row[1]]))
        elif row[0] == "end":
            rows.append(row)
        else:
            rows.append(row[:-2] + (places[row[-2]], places[row[-1]]))
    return Code(given.params, tuple(rows), given.kept)


def changed(paper, goals, dice):
    """A paper that differs from this one, in most cases."""
    pairs, at = list(paper), dice.randrange(len(paper))
    (row, slots), (row_there, slots_there) = pairs[at]
    way = dice.randrange(9)
    if way == 0:
        pairs.pop(at)
    elif way == 1:
        dice.shuffle(pairs)
        pairs.append(pairs[0])
    elif way == 2:
        pairs.append(((dice.choice(goals[0]), slots), (row_there, slots_there)))
    elif way == 3:
        pairs.append(((row, slots), (dice.choice(goals[1]), slots_there)))
    elif way == 4 and slots:
        k = dice.randrange(len(slots))
        pairs.append(((row, slots[:k] + ((slots[k][0], dice.choice(ODD_THINGS)),) + slots[k + 1:]), (row_there, slots_there)))
    elif way == 5 and slots_there:
        k = dice.randrange(len(slots_there))
        pairs.append(((row, slots), (row_there, slots_there[:k] + ((slots_there[k][0], dice.choice(ODD_THINGS)),) + slots_there[k + 1:])))
    elif way == 6 and slots:
        k = dice.randrange(len(slots))
        pairs.append(((row, slots[:k] + slots[k + 1:]), (row_there, slots_there)))
    elif way == 7:
        pairs.append(((row, slots + ((dice.randrange(12), dice.choice(ODD_THINGS)),)), (row_there, slots_there)))
    else:
        pairs.append(((row, tuple((slot, "None") for slot, _ in slots)), (row_there, tuple((slot, "None") for slot, _ in slots_there))))
    return tuple(pairs)


def random_rows(dice, many, slots, kept):
    """Rows that make a code with some luck."""
    words = {"neg": ("raises", "tells"), "eq": ("declines", "raises", "tells"), "bool": ("no", "raises", "yes")}

    def slot():
        return dice.randrange(slots)

    def operand():
        return dice.choice((slot(), slot(), slot(), dice.choice(("None", "True", "TypeError"))))

    def goal():
        return dice.randrange(many)

    rows = []
    while len(rows) < many:
        word = dice.choice(("has", "has", "same", "kind", "true", "set", "move", "unset", "jump", "end", "end"))
        if word == "has":
            method, asked = dice.choice(sorted(words)), slot()
            given = (asked, operand()) if method == "eq" else (asked,)
            rows += [(word, method, asked, len(rows) + 1, goal()), ("ask", method, given, dice.randrange(slots + 1), tuple((answer, goal()) for answer in words[method]))]
        elif word == "end":
            rows.append((word, dice.choice(("returns", "raises")), operand(), tuple(slot() for _ in range(kept or 0))))
        else:
            rows.append((word,) + {"same": lambda: (operand(), operand(), goal(), goal()), "kind": lambda: (operand(), goal(), goal()), "true": lambda: (operand(), goal(), goal()),
                                   "set": lambda: (slot(), goal(), goal()), "move": lambda: (slot(), operand()), "unset": lambda: (slot(),), "jump": lambda: (goal(),)}[word]())
    return tuple(rows)


class Papers(unittest.TestCase):
    def check(self, one, other, vows=()):
        """Two alike codes have papers that hold, either one first; returns the one for this order."""
        self.assertIsNone(compare(one, other, vows))
        for first, second in ((other, one), (one, other)):
            paper = paper_of(first, second, vows)
            self.assertIs(type(paper), tuple)
            self.assertTrue(paper_check.holds(first, second, vows, paper))
            self.assertIs(paper_holds(first, second, vows, paper), True)
        return paper

    def unlike(self, one, other, vows=()):
        """Two codes that are not alike have none, but a least book."""
        for first, second in ((one, other), (other, one)):
            with self.assertRaises(Unlike) as caught:
                paper_of(first, second, vows)
            book = caught.exception.book
            self.assertIs(type(book), Book)
            self.assertEqual(len(book), len(compare(first, second, vows)))
            self.assertTrue(parts_on(first, second, book))
            self.assertTrue(all(Promises(tuple(vows)).kept_by(given, book) for given in (first, second)))


class PaperTest(Papers):
    def test_alike(self):
        for text, other, vows in (
            ("params\npass", "params\nreturn None", ()), ("params x\nreturn x", "params y\nz = y\nreturn z", ()),
            ("params x y\nx += y\nreturn x", "params x y\nx = x + y\nreturn x", (("bare", "iadd"),)),
            ("params x y\nreturn x + y", "params x y\nz = x + y\nreturn z", ()),
            ("params x y\nreturn x == y", "params x y\nreturn y == x", (("bare", "eq"),)),
            ("params x y\nreturn x() is x", "params x y\nx()\nreturn True", (("itself", "call"),)),
            ("params x\nreturn (x == x) is x", "params x\nx == x\nreturn False", (("truth", "eq"),)),
            ("params x\ntry:\n x()\nexcept:\n return x", "params x\nx()", (("calm", "call"), ("has", "call"))),
            ("params x y\nfor z in x:\n y()\nreturn y", "params x y\nfor z in x:\n z = y()\n continue\nreturn y", ()),
            ("params x\nwith x as y:\n y()", "params x\nwith x as z:\n y = z\n y()", ()),
            ("params x y\nkept y\nx = y\ndel x", "params x y\nkept y\nx = y", ()), ("params x\nkept x y\ny = x", "params x\nkept x y\ny = x\nx = y", ()),
            ("params x\nkept x\ntry:\n x\nexcept:\n x = None", "params x\nkept x\ntry:\n x = x\nexcept as y:\n x = None", ()),
            ("params\nkept\nreturn None", "params\nkept\nreturn None", ()),
        ):
            one, other = code(text), code(other)
            paper = self.check(one, other, vows)
            if vows:
                self.assertIs(paper_holds(one, other, (), paper), False)
                self.assertIs(paper_holds(one, other, Promises(vows), paper), True)
                self.assertIs(paper_holds(one, other, list(vows), paper), True)
                self.unlike(one, other)
            self.check(one, one, vows)

    def test_unlike(self):
        for text, other, vows in (
            ("params\nreturn None", "params\nreturn True", ()), ("params x y\nreturn x", "params x y\nreturn y", ()),
            ("params x y\nx += y\nreturn x", "params x y\nx = x + y\nreturn x", (("has", "iadd"), ("calm", "add"))),
            ("params x\nkept x\npass", "params x\nkept x\nx", ()), ("params x\nkept x\nx = None", "params x\nkept x\nx = True", ()),
            ("params x\nx()\nx()", "params x\nx()", (("calm", "call"),)), ("params x\nwhile x():\n pass", "params x\nwhile x():\n x()", ()),
            ("params\nwhile True:\n pass", "params\npass", ()), ("params x\nwhile x:\n x()\n x()", "params x\nwhile x:\n x()", (("has", "call"),)),
        ):
            self.unlike(code(text), code(other), vows)

    def test_endless(self):
        """Codes that go on for ever without a call."""
        still, loop = Code(0, (("jump", 0),)), code("params\nwhile True:\n pass")
        self.assertEqual(self.check(still, loop), (((0, ()), (0, ())),))
        self.unlike(still, code("params\npass"))
        self.check(code("params x\nwhile x:\n pass"), code("params x\nwhile x:\n y = x"), ())
        self.check(code("params x\nwhile x:\n pass"), code("params x\nwhile True:\n pass"), (("bare", "bool"), ("bare", "len")))
        self.check(code("params x\nx()\nwhile True:\n pass"), code("params x\nx()\nwhile x is x:\n x = x"))

    def test_rows_in_another_order(self):
        dice = random.Random(5)
        for text in ("params x y\nx += y\nreturn x", "params x y\nfor z in x:\n if z == y:\n  return z\nreturn y", "params x\nkept x y\nfor y in x:\n del x",
                     "params x\nwhile x:\n x = x()"):
            one = code(text)
            for _ in range(3):
                other = shuffled(one, dice)
                self.check(one, other)
                self.check(other, shuffled(one, dice))

    def test_what_a_paper_is(self):
        one = Code(1, (("has", "neg", 0, 1, 2), ("ask", "neg", (0,), 0, NEG), ("end", "returns", 0, ())))
        other = Code(1, (("move", 3, 0), ("has", "neg", 3, 3, 2), ("end", "returns", 3, ()), ("ask", "neg", (3,), 3, NEG)))
        begin, behind = ((0, ((0, 0),)), (0, ((0, 0),))), ((2, ((0, 0),)), (2, ((3, 0),)))
        paper = self.check(one, other)
        self.assertEqual(set(paper), {begin, behind})
        for right in ((begin, behind), (behind, begin), (begin, behind, begin), (behind, begin, behind, begin)):
            self.assertTrue(paper_holds(one, other, (), right), right)
        self.assertFalse(paper_holds(one, other, (), (begin,)))
        self.assertFalse(paper_holds(one, other, (), (behind,)))
        self.assertTrue(paper_holds(one, other, (("bare", "neg"),), (begin,)))
        # One too many that is a pair: constants and errors that are held alike.
        for thing in ("None", "False", "NameError"):
            self.assertTrue(paper_holds(one, other, (), (begin, behind, ((2, ((0, thing),)), (2, ((3, thing),))))))
            self.assertTrue(paper_holds(one, other, (), (begin, behind, ((0, ((0, thing),)), (0, ((0, thing),))))))
        # One that is a pair, but is not alike.
        for slots, slots_there in ((((0, 0),), ((3, 1),)), (((0, 0),), ((3, "None"),)), (((0, "True"),), ((3, "None"),))):
            self.assertFalse(paper_holds(one, other, (), (begin, behind, ((2, slots), (2, slots_there)))))
        for wrong in (
            # Rows that are no goals of an ask, or none; slots that are not wanted, lacking, twice, in another order; things numbered otherwise.
            ((1, ((0, 0),)), (1, ((0, 0),))), ((1, ((0, 0),)), (2, ((3, 0),))), ((2, ((0, 0),)), (3, ((3, 0),))), ((7, ((0, 0),)), (2, ((3, 0),))),
            ((-1, ((0, 0),)), (2, ((3, 0),))), ((False, ((0, 0),)), (0, ((0, 0),))), ((0, ((0, 0),)), (False, ((0, 0),))), ((True, ((0, 0),)), (2, ((3, 0),))), (("2", ((0, 0),)), (2, ((3, 0),))), ((None, ((0, 0),)), (2, ((3, 0),))),
            ((2, ((0, 0), (1, 0))), (2, ((3, 0),))), ((2, ((0, 0),)), (2, ((0, 0), (3, 0)))), ((2, ()), (2, ((3, 0),))), ((2, ((0, 0),)), (2, ())), ((2, ()), (2, ())),
            ((2, ((0, 0), (0, 0))), (2, ((3, 0),))), ((2, ((0, 1),)), (2, ((3, 1),))), ((2, ((0, 1),)), (2, ((3, 0),))), ((2, ((0, -1),)), (2, ((3, -1),))),
            ((2, ((0, "unset"),)), (2, ((3, "unset"),))), ((2, ((0, None),)), (2, ((3, None),))), ((2, ((0, False),)), (2, ((3, False),))), ((2, ((0, "0"),)), (2, ((3, "0"),))),
            ((2, ((0, ("None",)),)), (2, ((3, ("None",)),))), ((2, ((False, 0),)), (2, ((3, 0),))), ((2, (("0", 0),)), (2, ((3, 0),))),
            # No tuples, or of another length.
            ((2, ((0, 0),)),), ((2, ((0, 0),)), (2, ((3, 0),)), (2, ((3, 0),))), [(2, ((0, 0),)), (2, ((3, 0),))], ([2, ((0, 0),)], (2, ((3, 0),))), ((2, [(0, 0)]), (2, ((3, 0),))),
            ((2, ([0, 0],)), (2, ((3, 0),))), ((2, ((0, 0),), ()), (2, ((3, 0),))), ((2,), (2, ((3, 0),))), ((2, ((0,),)), (2, ((3, 0),))), ((2, ((0, 0, 0),)), (2, ((3, 0),))),
            ((2, (0, 0)), (2, ((3, 0),))), ((), ()), (), None, 0, "", "pair", True, [], ((2, ((0, 0),)), 2), ((2, ((0, 0),)), None), ((2, None), (2, None)),
        ):
            self.assertFalse(paper_holds(one, other, (), (begin, behind, wrong)), wrong)
            self.assertFalse(paper_holds(one, other, (), (wrong, behind, begin)), wrong)

    def test_any_value(self):
        one = code("params x\nx()")
        paper = paper_of(one, one)
        for value in (None, True, False, 0, 7, "", "x", (), [], list(paper), [list(pair) for pair in paper], (paper,), ((),), (None,), ((None, None),), (((0,), (0,)),),
                      (((0, ()), (0, ())),), tuple([[list(stand) for stand in pair] for pair in paper]), ((((((((((((),),),),),),),),),),),)):
            self.assertIs(paper_holds(one, one, (), value), False, value)
        self.assertIs(paper_holds(one, one, (), paper), True)

    def test_slots_that_may_be_unset(self):
        """A slot that is only tested by `set`, or kept, may be left out; one that is read may not."""
        one = Code(1, (("set", 0, 1, 2), ("end", "returns", 0, (0,)), ("end", "falls", "None", (0,))), 1)
        pairs = set(self.check(one, one))
        self.assertEqual(pairs, {((0, ((0, thing),)),) * 2 for thing in (0, "None", "True", "False", "TypeError", "ValueError", "NameError")} | {((0, ()),) * 2})
        self.assertFalse(paper_holds(one, one, (), tuple(pairs - {((0, ()),) * 2})))
        kept = Code(1, (("end", "falls", "None", (0,)),), 1)
        self.assertEqual(len(self.check(kept, kept)), 8)
        self.assertEqual(len(self.check(Code(2, (("unset", 0), ("end", "falls", "None", (0,))), 1), Code(2, (("end", "falls", "None", (5,)),), 1))), 1)
        # Behind the call slot 1 is looked at on one way, and read behind a `set` alone.
        goals = (("raises", 3), ("tells", 2))
        looked = Code(1, (("has", "neg", 0, 1, 3), ("ask", "neg", (0,), 2, goals), ("set", 1, 4, 3), ("end", "returns", "None", ()), ("end", "returns", 1, ())))
        paper = self.check(looked, looked)
        self.assertIn(((2, ()), (2, ())), paper)
        more = ((2, ((1, 0),)), (2, ((1, 0),)))
        self.assertTrue(paper_holds(looked, looked, (), paper + (more,)))
        self.assertFalse(paper_holds(looked, looked, (), paper + (((2, ((1, 0),)), (2, ())),)))
        self.assertFalse(paper_holds(looked, looked, (), paper + (((2, ((2, 0),)), (2, ((2, 0),))),)))
        # Behind the call slot 0 is read where `set` tells no of slot 1, or yes.
        for ways in ((4, 3), (3, 4)):
            other = Code(2, (("has", "neg", 0, 1, 3), ("ask", "neg", (0,), 2, goals), ("set", 1, *ways), ("end", "returns", 0, ()), ("end", "returns", "None", ())))
            paper = self.check(other, other)
            for slots, right in ((((0, 0),), True), (((0, "None"), (1, 0)), True), ((), False), (((1, 0),), False)):
                self.assertIs(paper_holds(other, other, (), paper + (((2, slots), (2, slots)),)), right, slots)

    def test_answers_that_are_needed(self):
        """The thing whose method it is, things that are held, new ones, and constants where they may be told."""
        one = code("params x y\nz = x == y\nx(z)")
        paper = self.check(one, one)
        goals = {row[1]: goal for row in one.rows if row[0] == "ask" for word, goal in row[4] if word == "tells"}
        slots = {slot for at, held in [stand for pair in paper for stand in pair] if at == goals["eq"] for slot, _ in held}
        self.assertEqual(len(slots), 2)
        told = {tuple(thing for _, thing in pair[0][1]) for pair in paper if pair[0][0] == goals["eq"]}
        self.assertEqual(told, {(0, 0), (0, 1), (0, "True"), (0, "False")})
        for vows, expected in (((("truth", "eq"),), {(0, "True"), (0, "False")}), ((("itself", "eq"),), {(0, 0), (0, 1)})):
            fewer = self.check(one, one, vows)
            self.assertEqual({tuple(thing for _, thing in pair[0][1]) for pair in fewer if pair[0][0] == goals["eq"]}, expected)
            self.assertFalse(paper_holds(one, one, (), fewer))
            self.assertTrue(paper_holds(one, one, vows, paper))

    def test_each_pair_is_needed(self):
        """What `paper_of` tells has no pair too many, so none may lack."""
        for text in ("params x y\nx += y\nreturn x", "params x\nfor y in x:\n x[y] = x", "params x\nkept x\nx = x()"):
            one = code(text)
            paper = paper_of(one, one)
            for at in range(len(paper)):
                fewer = paper[:at] + paper[at + 1:]
                self.assertEqual(paper_holds(one, one, (), fewer), paper_check.holds(one, one, (), fewer))
                self.assertFalse(paper_holds(one, one, (), fewer))

    def test_errors(self):
        one, other, part = code("params x\nx()"), code("params x y\nx()"), code("params x\nkept\nx()")
        for first, second in ((one, other), (one, part), (part, one), (part, code("params x\nkept x\nx()"))):
            for vows in ((), (("bare", "x"),)):
                with self.assertRaises(OtherShape):
                    paper_of(first, second, vows)
                for value in ((), None, paper_of(first, first)):
                    with self.assertRaises(OtherShape):
                        paper_holds(first, second, vows, value)
        for vows, at in (((("bare", "x"),), 0), ((("bare", "add"), ("has", "add")), 1), ([None], 0)):
            with self.assertRaises(InvalidPromise) as caught:
                paper_of(one, code("params x\npass"), vows)
            self.assertEqual(caught.exception.at, at)
            with self.assertRaises(InvalidPromise):
                paper_holds(one, one, vows, paper_of(one, one))
        paper = paper_of(promises=(("bare", "iadd"),), other=one, one=one)
        self.assertTrue(paper_holds(value=paper, promises=(("bare", "iadd"),), other=one, one=one))


class RandomPapersTest(Papers):
    def test_pieces(self):
        """Papers of pieces made at random, and what differs from them, against the second way to look at papers."""
        told = {True: 0, False: 0}
        for seed in range(50):
            dice = random.Random(seed)
            kept = dice.choice((None, None, ("x",), ("z", "y")))
            params = ("x", "y", "z")[:dice.randrange(3 if kept else 4)]
            maker = Maker(dice, ("x", "y", "z"), dice.random() < 0.4)
            one = Piece(params, maker.body(2, False, False, 3), kept)
            rows = list(one.body)
            at = dice.randrange(len(rows))
            if rows[at][0] == "aug":
                rows[at] = ("set", rows[at][2], rows[at][1:])
            elif dice.random() < 0.5:
                rows.insert(at, ("pass",))
            else:
                rows[at] = ("finally", (rows[at],), (("pass",),))
            if len(one) > 6:
                continue
            one, other, vows = compiled(one), compiled(Piece(params, tuple(rows), kept)), dice.choice(VOWS)
            if compare(one, other, vows) is not None:
                self.unlike(one, other, vows)
                continue
            paper = self.check(one, other, vows)
            goals = [sorted({0, 1, 2} | {goal for row in given.rows if row[0] == "ask" for _, goal in row[4]}) for given in (one, other)]
            for _ in range(4 if len(paper) < 300 else 0):
                value = changed(paper, goals, dice)
                others = dice.choice(VOWS)
                for given, here in ((value, vows), (paper, others)):
                    right = paper_check.holds(one, other, here, given)
                    self.assertIs(paper_holds(one, other, here, given), right, (seed, given))
                    told[right] += 1
        self.assertTrue(told[True] > 40 and told[False] > 30, told)

    def test_codes(self):
        """The same for codes made at random."""
        told, dice = {True: 0, False: 0, "alike": 0, "unlike": 0}, random.Random(3)
        while told["alike"] < 250:
            kept = dice.choice((None, 1))
            params = 1 if kept else dice.choice((1, 2))
            slots = max(params, dice.choice((1, 2, 3)))
            given = random_rows(dice, dice.randrange(1, 8), slots, kept)
            other = list(given)
            if dice.random() < 0.8:
                other[dice.randrange(len(other))] = dice.choice(random_rows(dice, len(other), slots, kept))
            try:
                one, other = Code(params, given, kept), Code(params, tuple(other), kept)
            except InvalidCode:
                continue
            vows = dice.choice(((), (("bare", "neg"),), (("has", "neg"), ("calm", "neg")), (("itself", "neg"),), (("truth", "eq"), ("takes", "eq")), (("has", "eq"), ("bare", "neg"))))
            if compare(one, other, vows) is not None:
                self.unlike(one, other, vows)
                told["unlike"] += 1
                continue
            paper = self.check(one, other, vows)
            told["alike"] += 1
            goals = [sorted({0, 1, 2} | {goal for row in code.rows if row[0] == "ask" for _, goal in row[4]}) for code in (one, other)]
            for _ in range(3):
                value = changed(paper, goals, dice)
                right = paper_check.holds(one, other, vows, value)
                self.assertIs(paper_holds(one, other, vows, value), right, (one.rows, other.rows, vows, value))
                told[right] += 1
        self.assertTrue(told[True] > 100 and told[False] > 100 and told["unlike"] > 20, told)


if __name__ == "__main__":
    unittest.main()
