"""The class Run and the answers that it takes: [13], [14], [23], [24]."""

import random
import unittest

from helper import Walk, random_piece
from pieceasks.errors import InvalidBook
from pieceasks.methods import ANSWERS, DECIDING
from pieceasks.pieces import Piece
from pieceasks.runs import Run

BINARY = "add sub mul radd rsub rmul iadd isub imul eq ne lt le gt ge".split()
# The table of [13]: the words of the answers to each method.
TABLE = {method: {"declines", "raises", "tells"} for method in BINARY}
TABLE.update({method: {"raises", "tells"} for method in "neg iter enter contains getitem exit call getattr".split()})
TABLE.update({method: {"done", "raises"} for method in "delitem setitem delattr setattr".split()})
TABLE.update(next={"raises", "stop", "tells"}, bool={"no", "raises", "yes"}, len={"empty", "raises", "some"})
TRUTHS = "eq ne lt le gt ge contains exit".split()
ALL_WORDS = "declines raises tells stop no yes empty some done".split()

# For each method a row that calls it and the call, with two things; some pairs must lack for it.
CALLS = {
    "add": ("x + y", ("add", 0, 1)), "sub": ("x - y", ("sub", 0, 1)), "mul": ("x * y", ("mul", 0, 1)),
    "radd": ("x + y", ("radd", 1, 0), ("add", 0)), "rsub": ("x - y", ("rsub", 1, 0), ("sub", 0)),
    "rmul": ("x * y", ("rmul", 1, 0), ("mul", 0)), "iadd": ("x += y", ("iadd", 0, 1)), "isub": ("x -= y", ("isub", 0, 1)),
    "imul": ("x *= y", ("imul", 0, 1)), "eq": ("x == y", ("eq", 0, 1)), "ne": ("x != y", ("ne", 0, 1)),
    "lt": ("x < y", ("lt", 0, 1)), "le": ("x <= y", ("le", 0, 1)), "gt": ("x > y", ("gt", 0, 1)), "ge": ("x >= y", ("ge", 0, 1)),
    "neg": ("-x", ("neg", 0)), "iter": ("x, y = y", ("iter", 1)), "enter": ("with y:\n pass", ("enter", 1)),
    "contains": ("x in y", ("contains", 1, 0)), "getitem": ("x[y]", ("getitem", 0, 1)), "call": ("x(y, x)", ("call", 0, 1, 0)),
    "getattr": ("x.w", ("getattr", 0, ".w")), "bool": ("not x", ("bool", 0)), "len": ("not x", ("len", 0), ("bool", 0)),
    "delitem": ("del x[y]", ("delitem", 0, 1)), "setitem": ("x[y] = None", ("setitem", 0, 1, "None")),
    "delattr": ("del x.w", ("delattr", 0, ".w")), "setattr": ("x.w = y", ("setattr", 0, ".w", 1)),
}


def called(method):
    """A run that calls a method, the call, what must lack for it, and how many things came."""
    if method == "next":
        run = Run(Piece.read("params x y\nx, y = y"), (0, 1))
        run.tell(("tells", 2))
        return run, ("next", 2), (), 3
    if method == "exit":
        run = Run(Piece.read("params x y\nwith y:\n pass"), (0, 1))
        run.tell(("tells", 2))
        return run, ("exit", 1, "None"), (), 3
    row, call, *lacking = CALLS[method]
    return Run(Piece.read(f"params x y\n{row}"), (0, 1)), call, lacking, 2


class BeginTest(unittest.TestCase):
    def fails(self, at, piece, begin):
        with self.assertRaises(InvalidBook) as caught:
            Run(piece, begin)
        self.assertEqual((caught.exception.word, caught.exception.at), ("begin", at), begin)

    def test_whole_pieces(self):
        piece = Piece.read("params x y z\nreturn x(y, z)")
        for begin in ((0, 1, 2), (0, 0, 0), (0, 1, 0), (0, 0, 1), (0, 1, 1), [0, 1, 2]):
            self.assertEqual(Run(piece, begin).ask(), ("call",) + tuple(begin))
        for at, begin in ((0, (1, 0, 1)), (0, (-1, 0, 1)), (1, (0, 2, 1)), (2, (0, 0, 2)), (2, (0, 1, 3)), (1, (0, -1, 0)),
                          (0, ("None", 0, 1)), (1, (0, "unset", 1)), (2, (0, 1, "TypeError")), (0, (True, 0, 1)), (0, (False, 0, 1)),
                          (1, (0, True, 1)), (1, (0, None, 1)), (1, (0, "0", 1)), (1, (0, (0,), 1)), (1, (0, [], 1))):
            self.fails(at, piece, begin)

    def test_lengths(self):
        piece = Piece.read("params x y\npass")
        for at, begin in ((0, ()), (1, (0,)), (2, (0, 1, 2)), (2, (0, 1, 9, 9)), (2, [0, 0, "x"]), (0, (5,)), (1, (0, 5, 6)), (1, (0, "unset", 0))):
            self.fails(at, piece, begin)
        self.fails(0, Piece.read("params\npass"), (0,))
        self.assertEqual(Run(Piece.read("params\npass"), ()).ask(), ("returns", "None", ()))

    def test_parts(self):
        piece = Piece.read("params x y z\nkept z y x\npass")
        for begin in ((0, 1, 2), ("None", "True", "False"), ("TypeError", "ValueError", "NameError"), ("unset", 0, 1), (0, "unset", 1),
                      (0, "None", 0), ("unset", "unset", "unset")):
            self.assertEqual(Run(piece, begin).ask(), ("falls", "None", begin[::-1]))
        for at, begin in ((0, (1, 0, 0)), (1, ("None", 1, 0)), (1, (0, "none", 1)), (2, (0, "unset", 2)), (0, (None, 0, 1)), (0, (True, 0, 1)),
                          (1, (0, "KeyError", 1)), (1, (0, "", 1)), (1, (0, ["unset"], 1)), (0, (-1, 0, 0)), (3, (0, "None", 1, 2)), (2, ("unset", 0))):
            self.fails(at, piece, begin)

    def test_changed_later(self):
        begin = [0, 1]
        run = Run(Piece.read("params x y\nreturn x(y)"), begin)
        begin[1] = 0
        begin.append(5)
        self.assertEqual(run.ask(), ("call", 0, 1))
        self.assertEqual(run.held, {"x": 0, "y": 1})


class AnswerTest(unittest.TestCase):
    def test_table(self):
        self.assertEqual({method: set(words) for method, words in ANSWERS.items()}, TABLE)
        self.assertEqual(sorted(DECIDING), sorted(TRUTHS))
        for words in ANSWERS.values():
            self.assertEqual(list(words), sorted(words))

    def test_each_method(self):
        for method, words in TABLE.items():
            answers = [(word,) if word not in ("tells", "raises") else (word, thing) for word in ALL_WORDS for thing in (0, 1, 2, 3, 4, -1)]
            answers += [(word, thing) for word in ("tells", "raises") for thing in ("True", "False", "None", "TypeError", True, False, None)]
            for answer in answers:
                run, call, lacking, many = called(method)
                self.assertEqual(run.ask(lacking), call)
                allowed = answer[0] in words
                if len(answer) == 2 and isinstance(answer[1], int) and not isinstance(answer[1], bool):
                    allowed = allowed and 0 <= answer[1] <= many
                elif len(answer) == 2:
                    allowed = allowed and answer[0] == "tells" and method in TRUTHS and answer[1] in ("True", "False")
                self.check(run, call, lacking, answer, allowed)

    def check(self, run, call, lacking, answer, allowed):
        before = (run.calls, run.held, run.ask(), run.ask(lacking))
        if allowed:
            self.assertEqual(run.tell(answer, lacking), call)
            self.assertEqual(run.calls[-1], (call, answer))
            return
        with self.assertRaises(InvalidBook) as caught:
            run.tell(answer, lacking)
        self.assertEqual((caught.exception.word, caught.exception.at), ("answer", 0))
        self.assertEqual((run.calls, run.held, run.ask(), run.ask(lacking)), before)

    def test_any_values(self):
        for answer in (None, True, 0, "", "declines", "tells", (), ((),), (None,), (0,), ("tells",), ("tells", 0, 0), ("raises",), ("declines", 0),
                       ("declines", None), ("tells", "x"), ("tells", (0,)), ("tells", [0]), ("tells", "0"), (("tells", 0),), (["tells"], 0),
                       ["tells", 0], ["declines"], [], ("Tells", 0), ("tells 0",), ("none",), ("tells", ())):
            for method in ("add", "eq", "next", "bool", "setattr"):
                run, call, lacking, _ = called(method)
                self.check(run, call, lacking, answer, False)

    def test_numbers_of_new_things(self):
        run = Run(Piece.read("params x\nx(x(), x())\nx()"), (0,))
        for wrong in (2, 3):
            with self.assertRaises(InvalidBook):
                run.tell(("tells", wrong))
        run.tell(("tells", 1))
        with self.assertRaises(InvalidBook):
            run.tell(("tells", 3))
        run.tell(("tells", 0))
        with self.assertRaises(InvalidBook):
            run.tell(("raises", 3))
        self.assertEqual(run.tell(("tells", 2)), ("call", 0, 1, 0))
        self.assertEqual(run.tell(("raises", 3)), ("call", 0))
        self.assertEqual(run.ask(), ("raises", 3, ()))
        # With no thing at all, the first one that comes is 0.
        run = Run(Piece.read("params\nreturn None"), ())
        self.assertEqual(run.ask(), ("returns", "None", ()))


class RunTest(unittest.TestCase):
    def setUp(self):
        self.piece = Piece.read("params x y\nz = x + y\ny = z()\ndel x\nreturn -y")
        self.run_ = Run(self.piece, (0, 1))

    def test_ask_keeps_nothing(self):
        for _ in range(2):
            self.assertEqual(self.run_.ask(), ("add", 0, 1))
            self.assertEqual(self.run_.ask((("add", 0),)), ("radd", 1, 0))
            self.assertEqual(self.run_.ask([("add", 0), ("radd", 1)]), ("raises", "TypeError", ()))
            self.assertEqual(self.run_.ask(lacking=(("radd", 1), ("mul", 0))), ("add", 0, 1))
        self.assertEqual((len(self.run_), self.run_.calls, self.run_.held), (0, (), {"x": 0, "y": 1}))

    def test_whole_run(self):
        run = self.run_
        self.assertEqual(run.tell(("tells", 2)), ("add", 0, 1))
        self.assertEqual(run.held, {"x": 0, "y": 1})
        self.assertEqual(run.tell(answer=("tells", 3), lacking=[("add", 0)]), ("call", 2))
        self.assertEqual(run.held, {"x": 0, "y": 1, "z": 2})
        self.assertEqual(run.tell(("tells", 0)), ("neg", 3))
        self.assertEqual(run.held, {"y": 3, "z": 2})
        calls = ((("add", 0, 1), ("tells", 2)), (("call", 2), ("tells", 3)), (("neg", 3), ("tells", 0)))
        self.assertEqual((run.calls, len(run)), (calls, 3))
        self.assertEqual(run.ask(), ("returns", 0, ()))
        for answer in (("tells", 0), None):
            with self.assertRaises(InvalidBook) as caught:
                run.tell(answer)
            self.assertEqual((caught.exception.word, caught.exception.at), ("over", 0))
        self.assertEqual((run.calls, run.ask()), (calls, ("returns", 0, ())))

    def test_over_by_what_is_lacking(self):
        with self.assertRaises(InvalidBook) as caught:
            self.run_.tell(("tells", 2), (("add", 0), ("radd", 1)))
        self.assertEqual(caught.exception.word, "over")
        self.assertEqual(self.run_.ask(), ("add", 0, 1))
        endless = Run(Piece.read("params\nwhile True:\n pass"), ())
        self.assertEqual(endless.ask(), ("endless",))
        with self.assertRaises(InvalidBook) as caught:
            endless.tell(("declines",))
        self.assertEqual((caught.exception.word, caught.exception.at), ("over", 0))

    def test_lacking_at_one_moment_only(self):
        run = Run(Piece.read("params x\nx.w\nx.w\nx.w"), (0,))
        run.tell(("tells", 1), (("getattr", 1),))
        self.assertEqual(run.ask((("getattr", 0),)), ("raises", "TypeError", ()))
        run.tell(("tells", 1), ())
        self.assertEqual(run.ask(), ("getattr", 0, ".w"))

    def test_what_never_came(self):
        lacking = (("add", 2), ("add", 99), ("add", -1), ("getattr", 5))
        self.assertEqual(self.run_.ask(lacking), ("add", 0, 1))
        self.assertEqual(self.run_.tell(("tells", 2), lacking), ("add", 0, 1))
        self.assertEqual(self.run_.ask((("call", 3),)), ("call", 2))
        self.assertEqual(self.run_.ask((("call", 2),)), ("raises", "TypeError", ()))

    def test_back(self):
        run = self.run_
        self.assertIs(run.back(), False)
        run.tell(("tells", 2))
        run.tell(("tells", 3))
        self.assertIs(run.back(), True)
        self.assertEqual((run.ask(), run.held, len(run)), (("call", 2), {"x": 0, "y": 1}, 1))
        # The number of what was taken back is free again.
        run.tell(("raises", 3))
        self.assertEqual((run.ask(), run.held), (("raises", 3, ()), {"x": 0, "y": 1, "z": 2}))
        self.assertIs(run.back(), True)
        self.assertIs(run.back(), True)
        self.assertIs(run.back(), False)
        self.assertEqual((run.ask(), run.calls, run.held, len(run)), (("add", 0, 1), (), {"x": 0, "y": 1}, 0))
        self.assertEqual(run.tell(("declines",)), ("add", 0, 1))
        self.assertEqual(run.ask(), ("radd", 1, 0))

    def test_held(self):
        self.run_.held["x"] = 5
        self.assertEqual(self.run_.held, {"x": 0, "y": 1})
        self.assertIsNot(self.run_.held, self.run_.held)
        run = Run(Piece.read("params x y z\nkept x\nx((w := y))\nx()"), ("unset", "None", 0))
        self.assertEqual(run.held, {"y": "None", "z": 0})
        run = Run(Piece.read("params x y\nkept x\nx((w := y), None)\ny = y"), (0, "TypeError"))
        run.tell(("tells", 1))
        self.assertEqual(run.held, {"x": 0, "y": "TypeError", "w": "TypeError"})
        # What happens behind the call is not held yet.
        self.assertEqual(run.ask(), ("falls", "None", (0,)))
        self.assertEqual(run.held, {"x": 0, "y": "TypeError", "w": "TypeError"})

    def test_properties(self):
        for name in ("calls", "held"):
            self.assertIsInstance(Run.__dict__[name], property)
        for name in ("ask", "tell", "back", "__len__"):
            self.assertIn(name, Run.__dict__)

    def test_two_runs_share_nothing(self):
        other = Run(Piece.read(str(self.piece)), (0, 1))
        same = Run(begin=[0, 1], piece=self.piece)
        self.run_.tell(("tells", 2))
        self.assertEqual((len(other), len(same)), (0, 0))
        other.tell(("declines",))
        self.assertEqual((self.run_.ask(), other.ask(), same.ask()), (("call", 2), ("radd", 1, 0), ("add", 0, 1)))
        self.assertTrue(self.run_.back())
        self.assertEqual((len(self.run_), len(other), len(same)), (0, 1, 0))
        self.assertEqual(self.piece, Piece.read(str(self.piece)))

    def test_calls_are_kept(self):
        self.run_.tell(("tells", 2))
        calls = self.run_.calls
        self.run_.tell(("tells", 2))
        self.assertEqual(len(calls), 1)
        self.assertIsInstance(calls, tuple)

    def test_ways_to_end(self):
        for text, whole, part in (("return x", ("returns", 0), ("returns", 0)), ("raise x", ("raises", 0), ("raises", 0)),
                                  ("raise None", ("raises", "TypeError"), ("raises", "TypeError")),
                                  ("z", ("raises", "NameError"), ("raises", "NameError")),
                                  ("x = x", ("returns", "None"), ("falls", "None"))):
            self.assertEqual(Run(Piece.read(f"params x\n{text}"), (0,)).ask(), whole + ((),))
            for kept in ((), ("x",), ("y", "x"), ("z",)):
                piece = Piece(("x",), Piece.read(f"params x\n{text}").body, kept)
                things = tuple(0 if name == "x" else "unset" for name in kept)
                self.assertEqual(Run(piece, (0,)).ask(), part + (things,))


class WalkTest(unittest.TestCase):
    """Runs of pieces made at random do what a second way to run them does."""

    def follow(self, seed):
        dice = random.Random(seed)
        piece = random_piece(dice, dice.choice((1, 2, 3)), 4, dice.random() < 0.6)
        begin, many = self.begin(dice, piece)
        run = Run(piece, begin)
        answers, lackings = [], []
        while len(answers) < 20:
            lacking = self.lacking(dice, many)
            walk = Walk(piece, begin, answers, lackings + [lacking])
            call = walk.outcome()
            self.assertEqual(run.ask(lacking), call, seed)
            self.assertEqual(run.held, walk.held, seed)
            if call[0] in ("returns", "raises", "falls", "endless"):
                return
            answer = self.answer(dice, call[0], many)
            many = max([many] + [thing + 1 for thing in answer[1:] if isinstance(thing, int)])
            self.assertEqual(run.tell(answer, lacking), call)
            answers.append(answer)
            lackings.append(lacking)

    def begin(self, dice, piece):
        begin, many = [], 0
        for _ in piece.params:
            if piece.kept is not None and dice.random() < 0.1:
                begin.append(dice.choice(("None", "True", "False", "TypeError", "ValueError", "NameError", "unset")))
            else:
                begin.append(dice.randrange(many + 1))
                many = max(many, begin[-1] + 1)
        return begin, many

    def lacking(self, dice, many):
        share = dice.choice((0, 0, 0, 0.05, 0.3, 0.9))
        return tuple((method, thing) for thing in range(many) for method in sorted(TABLE) if dice.random() < share)

    def answer(self, dice, method, many):
        word = dice.choice(sorted(TABLE[method]) + sorted(TABLE[method] - {"raises"}) * 2)
        if word == "tells" and method in TRUTHS and dice.random() < 0.5:
            return (word, dice.choice(("True", "False")))
        return (word, dice.randrange(many + 1)) if word in ("tells", "raises") else (word,)

    def test_random_pieces(self):
        for seed in range(6000):
            self.follow(seed)


if __name__ == "__main__":
    unittest.main()
