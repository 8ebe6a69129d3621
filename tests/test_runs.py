"""What a piece does, told call by call: [12] to [14] and [17] to [23]."""

import unittest

from pieceasks.books import METHODS, Book
from pieceasks.codes import compiled
from pieceasks.pieces import Piece
from pieceasks.runs import Run


def words(text):
    """The words of a text as a tuple: figures become numbers."""
    return tuple(int(word) if word.isdigit() else word for word in text.split())


def lacking_in(text):
    """The pairs in `add:0 mul:1`."""
    pairs = [word.split(":") for word in text.split()]
    return tuple((method, int(thing)) for method, thing in pairs)


class Story(unittest.TestCase):
    def follow(self, text, begin, story):
        """Follows a story of lines `CALL: ANSWER` and a last line `= END`, each perhaps with `LACKING |` ahead.

        An end has its word, its thing and what is kept.
        """
        piece = Piece.read(text)
        run = Run(piece, words(begin))
        lines = [line.strip() for line in story.strip().split("\n")]
        moments, behind, coming = [], (), None
        for line in lines:
            lacking, _, rest = line.rpartition("|")
            lacking = lacking_in(lacking)
            if rest.strip().startswith("="):
                end = words(rest.strip()[1:])
                expected = end if len(end) == 1 else end[:2] + (end[2:],)
                self.assertEqual(run.ask(lacking), expected, line)
                behind, coming = lacking, expected
            else:
                call, _, answer = rest.partition(":")
                self.assertEqual(run.ask(lacking), words(call), line)
                self.assertEqual(run.tell(words(answer), lacking), words(call), line)
                came = {part for _, told in moments for part in told} | set(words(begin))
                known = [pair for pair in lacking if pair[0] in METHODS and pair[1] in came]
                moments.append((known, words(answer)))
        # The piece is walked likewise, up to each moment, and so is its code.
        book = Book(words(begin), moments, behind)
        for walker in (piece, compiled(piece)):
            for many, (lacking, answer) in enumerate(moments):
                self.assertEqual(walker(book.upto(many)), (run.calls[:many], ("asks", run.calls[many][0])))
            if coming is not None:
                self.assertEqual(walker(book), (run.calls, coming))
        return run


class ExpressionTest(Story):
    def test_names_and_constants(self):
        self.follow("params x y\nreturn y", "0 1", "= returns 1")
        self.follow("params x y\nreturn z", "0 1", "= raises NameError")
        self.follow("params x\nkept x z\nreturn x", "unset", "= raises NameError unset unset")
        self.follow("params x\nkept x z\nreturn x", "TypeError", "= returns TypeError TypeError unset")
        for word in ("None", "True", "False"):
            self.follow(f"params\nreturn {word}", "", f"= returns {word}")

    def test_sums(self):
        for sign, plain, back in (("+", "add", "radd"), ("-", "sub", "rsub"), ("*", "mul", "rmul")):
            text = f"params x y\nreturn x {sign} y"
            self.follow(text, "0 1", f"{plain} 0 1: tells 2\n = returns 2")
            self.follow(text, "0 1", f"{plain} 0 1: tells 1\n = returns 1")
            self.follow(text, "0 1", f"{plain} 0 1: raises 2\n = raises 2")
            self.follow(text, "0 1", f"{plain} 0 1: declines\n {back} 1 0: tells 2\n = returns 2")
            self.follow(text, "0 1", f"{plain} 0 1: declines\n {back} 1 0: raises 0\n = raises 0")
            self.follow(text, "0 1", f"{plain} 0 1: declines\n {back} 1 0: declines\n = raises TypeError")
            self.follow(text, "0 1", f"{plain} 0 1: declines\n {back}:1 | = raises TypeError")
            self.follow(text, "0 1", f"{plain}:0 | {back} 1 0: tells 2\n = returns 2")
            self.follow(text, "0 1", f"{plain}:0 | {back} 1 0: declines\n = raises TypeError")
            self.follow(text, "0 1", f"{plain}:0 {back}:1 | = raises TypeError")
            # What lacks at one moment may be there at the next one.
            self.follow(text, "0 1", f"{back}:1 | {plain} 0 1: declines\n {plain}:0 | {back} 1 0: tells 2\n = returns 2")
            # One thing is not asked to turn about.
            self.follow(text, "0 0", f"{plain} 0 0: declines\n = raises TypeError")
            self.follow(text, "0 0", f"{plain}:0 | = raises TypeError")
            self.follow(text, "0 0", f"{plain} 0 0: tells 0\n = returns 0")
        self.follow("params x\nreturn None + x", "0", "radd 0 None: tells 1\n = returns 1")
        self.follow("params x\nreturn x - True", "0", "sub 0 True: declines\n = raises TypeError")
        self.follow("params\nreturn None * None", "", "= raises TypeError")
        self.follow("params x y\nkept\nreturn x + y", "NameError 0", "radd 0 NameError: declines\n = raises TypeError")
        self.follow("params x y z\nreturn x + y * z", "0 1 2", "mul 1 2: tells 3\n add 0 3: tells 4\n = returns 4")
        self.follow("params x y z\nreturn x - y - z", "0 1 2", "sub 0 1: tells 3\n sub 3 2: tells 4\n = returns 4")

    def test_order_of_operands(self):
        self.follow("params x y\nreturn x() + z", "0 1", "call 0: tells 2\n = raises NameError")
        self.follow("params x y\nreturn z + x()", "0 1", "= raises NameError")
        self.follow("params x y\nreturn x[y()](x(), z)", "0 1", "call 1: tells 2\n getitem 0 2: tells 3\n call 0: tells 4\n = raises NameError")
        self.follow("params x y\nreturn x + (x := y)", "0 1", "add 0 1: tells 2\n = returns 2")
        self.follow("params x y\nreturn (x := y) + x", "0 1", "add 1 1: tells 2\n = returns 2")

    def test_called_if_it_has_it(self):
        for text, call in (("-x", "neg 0"), ("x[y]", "getitem 0 1"), ("x.w", "getattr 0 .w"), ("x()", "call 0"),
                           ("x(y)", "call 0 1"), ("x(y, x)", "call 0 1 0"), ("x(None, y)", "call 0 None 1")):
            text = f"params x y\nreturn {text}"
            self.follow(text, "0 1", f"{call}: tells 2\n = returns 2")
            self.follow(text, "0 1", f"{call}: raises 2\n = raises 2")
            self.follow(text, "0 1", f"{call.split()[0]}:0 | = raises TypeError")
            # The method of another thing, or of one that never came, means nothing.
            self.follow(text, "0 1", f"{call.split()[0]}:1 {call.split()[0]}:7 none:0 | {call}: raises 1\n = raises 1")
        for text in ("-None", "True[x]", "False.w", "None(x)", "None()"):
            self.follow(f"params x\nreturn {text}", "0", "= raises TypeError")
        self.follow("params x\nreturn None[x()]", "0", "call 0: raises 1\n = raises 1")
        self.follow("params x\nreturn None(x(), y)", "0", "call 0: tells 1\n = raises NameError")

    def test_equal(self):
        text = "params x y\nreturn x == y"
        self.follow(text, "0 1", "eq 0 1: tells 2\n = returns 2")
        self.follow(text, "0 1", "eq 0 1: tells True\n = returns True")
        self.follow(text, "0 1", "eq 0 1: raises 2\n = raises 2")
        self.follow(text, "0 1", "eq 0 1: declines\n eq 1 0: tells False\n = returns False")
        self.follow(text, "0 1", "eq 0 1: declines\n eq 1 0: declines\n = returns False")
        self.follow(text, "0 1", "eq 0 1: declines\n eq 1 0: raises 0\n = raises 0")
        self.follow(text, "0 1", "eq 0 1: declines\n eq:1 | = returns False")
        self.follow(text, "0 1", "eq:0 | eq 1 0: tells 0\n = returns 0")
        self.follow(text, "0 1", "eq:0 eq:1 | = returns False")
        self.follow(text, "0 0", "eq 0 0: declines\n eq 0 0: declines\n = returns True")
        self.follow(text, "0 0", "eq 0 0: declines\n eq 0 0: tells 1\n = returns 1")
        self.follow(text, "0 0", "eq:0 | = returns True")
        self.follow("params x\nreturn None == x", "0", "eq 0 None: declines\n = returns False")
        self.follow("params\nreturn None == None", "", "= returns True")
        self.follow("params\nreturn None == False", "", "= returns False")

    def test_unequal(self):
        text = "params x y\nreturn x != y"
        self.follow(text, "0 1", "ne 0 1: tells 2\n = returns 2")
        self.follow(text, "0 1", "ne 0 1: raises 2\n = raises 2")
        self.follow(text, "0 1", "ne 0 1: declines\n ne 1 0: tells True\n = returns True")
        self.follow(text, "0 1", "ne 0 1: declines\n ne 1 0: declines\n = returns True")
        # What declines declines: `eq` of the same thing is not asked then.
        self.follow(text, "0 1", "ne 0 1: declines\n ne:1 | eq 1 0: declines\n = returns True")
        self.follow(text, "0 1", "ne 0 1: declines\n ne:1 eq:1 | = returns True")
        self.follow(text, "0 1", "ne:0 | eq 0 1: tells True\n = returns False")
        self.follow(text, "0 1", "ne:0 | eq 0 1: tells False\n = returns True")
        self.follow(text, "0 1", "ne:0 | eq 0 1: tells 2\n bool 2: yes\n = returns False")
        self.follow(text, "0 1", "ne:0 | eq 0 1: tells 2\n bool:2 | len 2: empty\n = returns True")
        self.follow(text, "0 1", "ne:0 | eq 0 1: tells 2\n bool:2 len:2 | = returns False")
        self.follow(text, "0 1", "ne:0 | eq 0 1: tells 2\n bool 2: raises 1\n = raises 1")
        self.follow(text, "0 1", "ne:0 | eq 0 1: raises 2\n = raises 2")
        self.follow(text, "0 1", "ne:0 | eq 0 1: declines\n ne 1 0: tells 0\n = returns 0")
        self.follow(text, "0 1", "ne:0 eq:0 | ne 1 0: tells 2\n = returns 2")
        self.follow(text, "0 1", "ne:0 eq:0 ne:1 | eq 1 0: tells 2\n bool 2: no\n = returns True")
        self.follow(text, "0 1", "ne:0 eq:0 ne:1 eq:1 | = returns True")
        self.follow(text, "0 0", "ne 0 0: declines\n ne 0 0: declines\n = returns False")
        self.follow(text, "0 0", "ne:0 eq:0 | = returns False")
        self.follow("params x\nreturn True != x", "0", "ne 0 True: declines\n = returns True")
        self.follow("params\nreturn True != True", "", "= returns False")

    def test_order(self):
        for sign, plain, back in (("<", "lt", "gt"), ("<=", "le", "ge"), (">", "gt", "lt"), (">=", "ge", "le")):
            text = f"params x y\nreturn x {sign} y"
            self.follow(text, "0 1", f"{plain} 0 1: tells 2\n = returns 2")
            self.follow(text, "0 1", f"{plain} 0 1: tells False\n = returns False")
            self.follow(text, "0 1", f"{plain} 0 1: raises 2\n = raises 2")
            self.follow(text, "0 1", f"{plain} 0 1: declines\n {back} 1 0: tells True\n = returns True")
            self.follow(text, "0 1", f"{plain} 0 1: declines\n {back} 1 0: declines\n = raises TypeError")
            self.follow(text, "0 1", f"{plain} 0 1: declines\n {back}:1 | = raises TypeError")
            self.follow(text, "0 1", f"{plain}:0 | {back} 1 0: raises 1\n = raises 1")
            self.follow(text, "0 1", f"{plain}:0 {back}:1 | = raises TypeError")
            self.follow(text, "0 0", f"{plain}:0 | {back} 0 0: tells 0\n = returns 0")
        self.follow("params\nreturn None < True", "", "= raises TypeError")
        self.follow("params x\nreturn None >= x", "0", "le 0 None: tells 1\n = returns 1")

    def test_within(self):
        for sign, right, wrong in (("in", "True", "False"), ("not in", "False", "True")):
            text = f"params x y\nreturn x {sign} y"
            self.follow(text, "0 1", f"contains 1 0: tells True\n = returns {right}")
            self.follow(text, "0 1", f"contains 1 0: tells False\n = returns {wrong}")
            self.follow(text, "0 1", f"contains 1 0: tells 2\n bool 2: yes\n = returns {right}")
            self.follow(text, "0 1", f"contains 1 0: tells 2\n bool 2: no\n = returns {wrong}")
            self.follow(text, "0 1", f"contains 1 0: tells 2\n bool:2 | len 2: raises 3\n = raises 3")
            self.follow(text, "0 1", f"contains 1 0: tells 2\n bool:2 len:2 | = returns {right}")
            self.follow(text, "0 1", "contains 1 0: raises 2\n = raises 2")
            self.follow(text, "0 1", "contains:1 iter:1 | = raises TypeError")
            self.follow(text, "0 1", "contains:1 | iter 1: raises 2\n = raises 2")
            self.follow(text, "0 1", "contains:1 | iter 1: tells 2\n next:2 | = raises TypeError")
            self.follow(text, "0 1", f"contains:1 | iter 1: tells 2\n next 2: stop\n = returns {wrong}")
            self.follow(text, "0 1", "contains:1 | iter 1: tells 2\n next 2: raises 0\n = raises 0")
            self.follow(text, "0 1", f"contains:1 | iter 1: tells 1\n next 1: tells 0\n = returns {right}")
            self.follow(text, "0 1", f"""contains:1 | iter 1: tells 2
                next 2: tells 3
                eq 3 0: tells False
                next 2: tells 4
                eq:4 | eq 0 4: tells 5
                bool 5: no
                next 2: tells 4
                eq 4 0: declines
                eq 0 4: declines
                next 2: tells 4
                eq:4 eq:0 | next 2: tells 1
                eq 1 0: tells 6
                bool:6 | len 6: some
                = returns {right}""")
            self.follow(text, "0 1", "contains:1 | iter 1: tells 2\n next 2: tells 3\n eq 3 0: raises 3\n = raises 3")
            self.follow(text, "0 1", "contains:1 | iter 1: tells 2\n next 2: tells 3\n eq 3 0: tells 3\n bool 3: raises 1\n = raises 1")
            self.follow(f"params x\nreturn None {sign} x", "0", f"contains:0 | iter 0: tells 1\n next 1: tells 2\n eq 2 None: declines\n next 1: stop\n = returns {wrong}")
            self.follow(f"params x\nreturn x {sign} None", "0", "= raises TypeError")
            self.follow(text, "0 0", f"contains 0 0: tells False\n = returns {wrong}")

    def test_is(self):
        self.follow("params x y\nreturn x is y", "0 1", "= returns False")
        self.follow("params x y\nreturn x is y", "0 0", "= returns True")
        self.follow("params x y\nreturn x is not y", "0 1", "= returns True")
        self.follow("params x y\nreturn x is not y", "0 0", "= returns False")
        self.follow("params\nreturn None is None", "", "= returns True")
        self.follow("params\nreturn None is not True", "", "= returns True")
        self.follow("params x y\nkept\nreturn x is y", "TypeError TypeError", "= returns True")
        self.follow("params x y\nkept\nreturn x is y", "TypeError ValueError", "= returns False")

    def test_chains(self):
        text = "params x y z\nreturn x < y() == z()"
        self.follow(text, "0 1 2", "call 1: tells 3\n lt 0 3: tells True\n call 2: tells 4\n eq 3 4: tells 5\n = returns 5")
        self.follow(text, "0 1 2", "call 1: tells 3\n lt 0 3: tells False\n = returns False")
        self.follow(text, "0 1 2", "call 1: tells 3\n lt 0 3: tells 4\n bool 4: no\n = returns 4")
        self.follow(text, "0 1 2", "call 1: tells 3\n lt 0 3: tells 4\n bool 4: yes\n call 2: tells 5\n eq:3 eq:5 | = returns False")
        self.follow(text, "0 1 2", "call 1: tells 3\n lt 0 3: tells 4\n bool 4: raises 0\n = raises 0")
        self.follow(text, "0 1 2", "call 1: tells 3\n lt:0 | gt 3 0: tells 4\n bool:4 len:4 | call 2: raises 4\n = raises 4")
        self.follow(text, "0 1 2", "call 1: tells 3\n lt:0 gt:3 | = raises TypeError")
        self.follow("params x y z\nreturn x != y != z", "0 1 2", "ne:0 | eq 0 1: tells False\n ne:1 | eq 1 2: tells 3\n bool 3: no\n = returns True")
        self.follow("params x\nreturn None == None == x", "0", "eq 0 None: tells 1\n = returns 1")
        self.follow("params x\nreturn None == False == x", "0", "= returns False")
        self.follow("params x\nreturn x == x == None", "0", "eq:0 | = returns False")

    def test_truth(self):
        text = "params x\nreturn not x"
        self.follow(text, "0", "bool 0: yes\n = returns False")
        self.follow(text, "0", "bool 0: no\n = returns True")
        self.follow(text, "0", "bool 0: raises 1\n = raises 1")
        self.follow(text, "0", "bool:0 | len 0: some\n = returns False")
        self.follow(text, "0", "bool:0 | len 0: empty\n = returns True")
        self.follow(text, "0", "bool:0 | len 0: raises 0\n = raises 0")
        self.follow(text, "0", "bool:0 len:0 | = returns False")
        for word, truth in (("None", "True"), ("False", "True"), ("True", "False"), ("TypeError", "False"),
                            ("ValueError", "False"), ("NameError", "False")):
            self.follow("params x\nkept\nreturn not x", word, f"= returns {truth}")
            if word in ("None", "True", "False"):
                self.follow(f"params\nreturn not {word}", "", f"= returns {truth}")

    def test_and_or(self):
        self.follow("params x y\nreturn x and y", "0 1", "bool 0: yes\n = returns 1")
        self.follow("params x y\nreturn x and y", "0 1", "bool 0: no\n = returns 0")
        self.follow("params x y\nreturn x and y", "0 1", "bool 0: raises 2\n = raises 2")
        self.follow("params x y\nreturn x and z", "0 1", "bool:0 len:0 | = raises NameError")
        self.follow("params x y\nreturn x or y", "0 1", "bool 0: yes\n = returns 0")
        self.follow("params x y\nreturn x or y", "0 1", "bool 0: no\n = returns 1")
        self.follow("params x y\nreturn x or z", "0 1", "bool:0 | len 0: empty\n = raises NameError")
        self.follow("params x\nreturn None and x", "0", "= returns None")
        self.follow("params x\nreturn True and x", "0", "= returns 0")
        self.follow("params x\nreturn None or x", "0", "= returns 0")
        self.follow("params x\nreturn True or x", "0", "= returns True")
        self.follow("params x y\nreturn x() and y() or x", "0 1", "call 0: tells 2\n bool 2: yes\n call 1: tells 3\n bool 3: no\n = returns 0")

    def test_if_else(self):
        text = "params x y z\nreturn x() if y() else z()"
        self.follow(text, "0 1 2", "call 1: tells 3\n bool 3: yes\n call 0: tells 4\n = returns 4")
        self.follow(text, "0 1 2", "call 1: tells 3\n bool 3: no\n call 2: tells 4\n = returns 4")
        self.follow(text, "0 1 2", "call 1: tells 3\n bool 3: raises 3\n = raises 3")
        self.follow("params x\nreturn x if None else True", "0", "= returns True")

    def test_walrus(self):
        self.follow("params x\nkept x y\n(y := x())", "0", "call 0: tells 1\n = falls None 0 1")
        self.follow("params x\nkept x y\n(y := x())", "0", "call 0: raises 1\n = raises 1 0 unset")
        self.follow("params x\nkept x y\nx((y := None), (x := True))", "0", "call 0 None True: tells 1\n = falls None True None")
        self.follow("params x\nreturn (y := (z := x)) is z", "0", "= returns True")


class StatementTest(Story):
    def test_set(self):
        self.follow("params x y\nx = y\nreturn x", "0 1", "= returns 1")
        self.follow("params x y\nx[x()] = y()", "0 1", "call 1: tells 2\n call 0: tells 3\n setitem 0 3 2: done\n = returns None")
        self.follow("params x y\nx[y] = None", "0 1", "setitem 0 1 None: raises 2\n = raises 2")
        self.follow("params x y\nx[y] = y", "0 1", "setitem:0 | = raises TypeError")
        self.follow("params x y\nx.w = y", "0 1", "setattr 0 .w 1: done\n = returns None")
        self.follow("params x y\nx().w = y()", "0 1", "call 1: tells 2\n call 0: tells 3\n setattr 3 .w 2: raises 1\n = raises 1")
        self.follow("params x y\nx.w = y", "0 1", "setattr:0 | = raises TypeError")
        self.follow("params x y\nz.w = y", "0 1", "= raises NameError")
        self.follow("params x\nNone[x()] = x", "0", "call 0: tells 1\n = raises TypeError")
        self.follow("params x\nkept x\nx = x()", "0", "call 0: raises 1\n = raises 1 0")

    def test_take(self):
        text = "params x\nkept y z\ny, z = x"
        self.follow(text, "0", "iter 0: tells 1\n next 1: tells 2\n next 1: tells 0\n next 1: stop\n = falls None 2 0")
        self.follow(text, "0", "iter 0: tells 0\n next 0: tells 1\n next 0: tells 2\n next 0: tells 3\n = raises ValueError unset unset")
        self.follow(text, "0", "iter 0: tells 1\n next 1: stop\n = raises ValueError unset unset")
        self.follow(text, "0", "iter 0: tells 1\n next 1: tells 2\n next 1: stop\n = raises ValueError unset unset")
        self.follow(text, "0", "iter 0: raises 1\n = raises 1 unset unset")
        self.follow(text, "0", "iter:0 | = raises TypeError unset unset")
        self.follow(text, "0", "iter 0: tells 1\n next:1 | = raises TypeError unset unset")
        self.follow(text, "0", "iter 0: tells 1\n next 1: raises 2\n = raises 2 unset unset")
        self.follow(text, "0", "iter 0: tells 1\n next 1: tells 2\n next:1 | = raises TypeError unset unset")
        self.follow(text, "0", "iter 0: tells 1\n next 1: tells 2\n next 1: raises 2\n = raises 2 unset unset")
        self.follow(text, "0", "iter 0: tells 1\n next 1: tells 2\n next 1: tells 3\n next:1 | = raises TypeError unset unset")
        self.follow(text, "0", "iter 0: tells 1\n next 1: tells 2\n next 1: tells 3\n next 1: raises 1\n = raises 1 unset unset")
        self.follow("params x\nkept x\nx, x.w = x", "0", "iter 0: tells 1\n next 1: tells 2\n next 1: tells 3\n next 1: stop\n setattr 2 .w 3: done\n = falls None 2")
        self.follow("params x\nkept y\nx[x], y = x", "0", "iter 0: tells 1\n next 1: tells 2\n next 1: tells 3\n next 1: stop\n setitem 0 0 2: raises 1\n = raises 1 unset")
        self.follow("params x\nx, y = None", "0", "= raises TypeError")

    def test_swap(self):
        self.follow("params x y\nkept x y\nx, y = y, x", "0 1", "= falls None 1 0")
        self.follow("params x y\nkept x y\nx, y = y(), x()", "0 1", "call 1: tells 2\n call 0: raises 3\n = raises 3 0 1")
        self.follow("params x y\nkept x y\nx, x.w = y, x", "0 1", "setattr 1 .w 0: done\n = falls None 1 1")
        self.follow("params x y\nx[y()], y = None, True\nreturn y", "0 1", "call 1: tells 2\n setitem 0 2 None: done\n = returns True")
        self.follow("params x y\nkept x\nx, y.w = y, x", "0 1", "setattr:1 | = raises TypeError 1")

    def test_in_place_names(self):
        for sign, place, plain, back in (("+", "iadd", "add", "radd"), ("-", "isub", "sub", "rsub"), ("*", "imul", "mul", "rmul")):
            text = f"params x y\nkept x\nx {sign}= y"
            self.follow(text, "0 1", f"{place} 0 1: tells 2\n = falls None 2")
            self.follow(text, "0 1", f"{place} 0 1: raises 2\n = raises 2 0")
            self.follow(text, "0 1", f"{place} 0 1: declines\n {plain} 0 1: tells 2\n = falls None 2")
            self.follow(text, "0 1", f"{place}:0 | {plain} 0 1: tells 2\n = falls None 2")
            self.follow(text, "0 1", f"{place}:0 | {plain} 0 1: declines\n {back} 1 0: tells 2\n = falls None 2")
            self.follow(text, "0 1", f"{place}:0 {plain}:0 | {back} 1 0: declines\n = raises TypeError 0")
            self.follow(text, "0 1", f"{place}:0 {plain}:0 {back}:1 | = raises TypeError 0")
            self.follow(text, "0 0", f"{place} 0 0: declines\n {plain} 0 0: declines\n = raises TypeError 0")
        self.follow("params x y\nkept x\nx += (x := y)", "0 1", "iadd 0 1: tells 2\n = falls None 2")
        self.follow("params x y\nz += x()", "0 1", "= raises NameError")
        self.follow("params x y\nx += z", "0 1", "= raises NameError")
        self.follow("params x\nx += None\nreturn x", "0", "iadd 0 None: tells 1\n = returns 1")

    def test_in_place_items(self):
        text = "params x y z\nx()[y()] += z()"
        head = "call 0: tells 3\n call 1: tells 4\n"
        self.follow(text, "0 1 2", head + "getitem 3 4: tells 5\n call 2: tells 6\n iadd 5 6: tells 7\n setitem 3 4 7: done\n = returns None")
        self.follow(text, "0 1 2", head + "getitem 3 4: tells 5\n call 2: tells 6\n iadd:5 | add 5 6: tells 0\n setitem 3 4 0: raises 1\n = raises 1")
        self.follow(text, "0 1 2", head + "getitem 3 4: tells 5\n call 2: tells 6\n iadd 5 6: tells 7\n setitem:3 | = raises TypeError")
        self.follow(text, "0 1 2", head + "getitem:3 | = raises TypeError")
        self.follow(text, "0 1 2", head + "getitem 3 4: raises 5\n = raises 5")
        self.follow("params x\nNone[x()] *= x", "0", "call 0: tells 1\n = raises TypeError")
        self.follow("params x\nx[None] *= None", "0", "getitem 0 None: tells 1\n imul 1 None: tells 2\n setitem 0 None 2: done\n = returns None")

    def test_in_place_attributes(self):
        text = "params x y\nx().w -= y()"
        head = "call 0: tells 2\n"
        self.follow(text, "0 1", head + "getattr 2 .w: tells 3\n call 1: tells 4\n isub 3 4: tells 5\n setattr 2 .w 5: done\n = returns None")
        self.follow(text, "0 1", head + "getattr 2 .w: tells 3\n call 1: tells 4\n isub 3 4: declines\n sub 3 4: tells 5\n setattr:2 | = raises TypeError")
        self.follow(text, "0 1", head + "getattr:2 | = raises TypeError")
        self.follow(text, "0 1", head + "getattr 2 .w: tells 3\n call 1: raises 4\n = raises 4")

    def test_del(self):
        self.follow("params x\nkept x\ndel x", "0", "= falls None unset")
        self.follow("params x\nkept x\ndel y", "0", "= raises NameError 0")
        self.follow("params x\ndel x\ndel x", "0", "= raises NameError")
        self.follow("params x y\ndel x()[y()]", "0 1", "call 0: tells 2\n call 1: tells 3\n delitem 2 3: done\n = returns None")
        self.follow("params x y\ndel x[y]", "0 1", "delitem 0 1: raises 0\n = raises 0")
        self.follow("params x y\ndel x[y]", "0 1", "delitem:0 | = raises TypeError")
        self.follow("params x\ndel x.w", "0", "delattr 0 .w: done\n = returns None")
        self.follow("params x\ndel x.w", "0", "delattr 0 .w: raises 1\n = raises 1")
        self.follow("params x\ndel x.w", "0", "delattr:0 | = raises TypeError")
        self.follow("params x\ndel None.w", "0", "= raises TypeError")

    def test_if(self):
        text = "params x y\nif x:\n y()\nelse:\n x()\nreturn y"
        self.follow(text, "0 1", "bool 0: yes\n call 1: tells 2\n = returns 1")
        self.follow(text, "0 1", "bool 0: no\n call 0: tells 2\n = returns 1")
        self.follow(text, "0 1", "bool 0: raises 2\n = raises 2")
        self.follow("params x y\nif x:\n y()", "0 1", "bool 0: no\n = returns None")
        self.follow("params x y\nif x:\n pass\nelse:\n y()", "0 1", "bool:0 len:0 | = returns None")
        self.follow("params x\nif None:\n x()", "0", "= returns None")

    def test_while(self):
        text = "params x y\nwhile x():\n y()\nelse:\n y.w"
        self.follow(text, "0 1", """call 0: tells 2
            bool 2: yes
            call 1: tells 3
            call 0: tells 4
            bool:4 | len 4: some
            call 1: tells 3
            call 0: tells 2
            bool 2: no
            getattr 1 .w: tells 5
            = returns None""")
        self.follow(text, "0 1", "call 0: tells 2\n bool 2: raises 2\n = raises 2")
        self.follow("params x y\nwhile x:\n if y:\n  break\n continue\nelse:\n return x\nreturn y", "0 1",
                    "bool 0: yes\n bool 1: no\n bool 0: yes\n bool 1: yes\n = returns 1")
        self.follow("params x y\nwhile x:\n if y:\n  break\n continue\n x()\nelse:\n return x\nreturn y", "0 1",
                    "bool 0: yes\n bool 1: no\n bool 0: no\n = returns 0")
        self.follow("params x\nwhile False:\n x()\nelse:\n return x", "0", "= returns 0")

    def test_for(self):
        text = "params x y\nfor z in x():\n z()\nelse:\n y()\nreturn z"
        self.follow(text, "0 1", """call 0: tells 2
            iter 2: tells 3
            next 3: tells 4
            call 4: tells 5
            next 3: tells 1
            call 1: tells 6
            next 3: stop
            call 1: tells 7
            = returns 1""")
        self.follow(text, "0 1", "call 0: tells 2\n iter 2: tells 3\n next 3: stop\n call 1: tells 4\n = raises NameError")
        self.follow(text, "0 1", "call 0: tells 2\n iter:2 | = raises TypeError")
        self.follow(text, "0 1", "call 0: tells 2\n iter 2: raises 3\n = raises 3")
        self.follow(text, "0 1", "call 0: tells 2\n iter 2: tells 3\n next:3 | = raises TypeError")
        self.follow(text, "0 1", "call 0: tells 2\n iter 2: tells 3\n next 3: raises 0\n = raises 0")
        self.follow("params x y\nfor x.w in y:\n pass", "0 1", "iter 1: tells 2\n next 2: tells 3\n setattr 0 .w 3: done\n next 2: tells 3\n setattr:0 | = raises TypeError")
        text = "params x y\nfor z in x:\n if z:\n  continue\n if y:\n  break\n z()\nelse:\n return x\nreturn z"
        self.follow(text, "0 1", "iter 0: tells 2\n next 2: tells 3\n bool 3: yes\n next 2: tells 4\n bool 4: no\n bool 1: yes\n = returns 4")
        self.follow(text, "0 1", "iter 0: tells 2\n next 2: tells 3\n bool 3: no\n bool 1: no\n call 3: tells 4\n next 2: stop\n = returns 0")
        # The thing that is walked is kept, whatever becomes of the name.
        self.follow("params x\nfor x in x:\n del x", "0", "iter 0: tells 1\n next 1: tells 2\n next 1: tells 0\n next 1: stop\n = returns None")

    def test_nested_loops(self):
        text = "params x y\nfor a in x:\n for b in y:\n  if b:\n   break\n else:\n  continue\n a()\n break\nelse:\n return x\nreturn y"
        self.follow(text, "0 1", """iter 0: tells 2
            next 2: tells 3
            iter 1: tells 4
            next 4: stop
            next 2: tells 5
            iter 1: tells 6
            next 6: tells 7
            bool 7: no
            next 6: tells 8
            bool 8: yes
            call 5: tells 9
            = returns 1""")
        # A `break` in the `other` of an inner loop leaves the outer one.
        self.follow("params x\nwhile x:\n while None:\n  pass\n else:\n  break\nelse:\n return x", "0", "bool 0: yes\n = returns None")

    def test_raise(self):
        self.follow("params x\nraise x", "0", "= raises 0")
        for word in ("None", "True", "False"):
            self.follow(f"params x\nraise {word}", "0", "= raises TypeError")
            self.follow("params x\nkept\nraise x", word, "= raises TypeError")
        for word in ("TypeError", "ValueError", "NameError"):
            self.follow("params x\nkept\nraise x", word, f"= raises {word}")
        self.follow("params x\nraise x()", "0", "call 0: tells 1\n = raises 1")
        self.follow("params x\nraise x()", "0", "call 0: raises 0\n = raises 0")
        self.follow("params x\nraise y", "0", "= raises NameError")

    def test_return(self):
        self.follow("params x\nreturn x()\nx()", "0", "call 0: tells 1\n = returns 1")
        self.follow("params x\nwhile x:\n return None", "0", "bool 0: yes\n = returns None")
        self.follow("params x\nkept x\nreturn (x := None)", "0", "= returns None None")

    def test_ends(self):
        self.follow("params x\npass", "0", "= returns None")
        self.follow("params x\nkept x y\npass", "0", "= falls None 0 unset")
        self.follow("params x y\nkept y x\ny = x\nraise x", "0 1", "= raises 0 0 0")
        self.follow("params x y\nkept y x\ny = None\nreturn x", "0 1", "= returns 0 None 0")
        self.follow("params\nkept\npass", "", "= falls None")
        self.follow("params\nkept z\npass", "", "= falls None unset")
        self.follow("params x y\nkept x y\nx, y = y, x", "unset 0", "= raises NameError unset 0")

    def test_endless(self):
        self.follow("params\nwhile True:\n pass", "", "= endless")
        self.follow("params\nkept\nwhile True:\n pass", "", "= endless")
        self.follow("params x\nwhile x:\n pass", "0", "bool 0: yes\n bool:0 | len 0: some\n bool:0 len:0 | = endless")
        # At another moment it goes on.
        self.follow("params x\nwhile x:\n pass", "0", "bool 0: yes\n bool 0: no\n = returns None")
        self.follow("params x\nwhile True:\n try:\n  x()\n finally:\n  pass", "0", "call 0: tells 1\n call:0 | = raises TypeError")
        self.follow("params x\nwhile True:\n try:\n  x()\n except:\n  pass", "0", "call 0: tells 1\n call 0: raises 1\n call:0 | = endless")
        self.follow("params x y\nwhile True:\n x, y = y, x", "0 1", "= endless")
        self.follow("params x y\nwhile x is not y:\n x, y = y, x", "0 1", "= endless")
        # Some rounds without a call are no going on for ever.
        self.follow("params x y z\nwhile x is not z:\n x, y = y, x\n if x is None:\n  return y\n y, z = z, y\nreturn x", "0 1 2", "= endless")
        text = "params x y z\nx = None\nwhile x is not z:\n if x is None:\n  x = True\n else:\n  if x is True:\n   x = False\n  else:\n   x = z\nreturn x"
        self.follow(text, "0 1 2", "= returns 2")
        self.follow("params x\nx()\nwhile True:\n try:\n  raise x\n except as x:\n  x = None", "0", "call 0: tells 1\n = endless")
        self.follow("params x\nx()\nwhile True:\n try:\n  raise x\n except:\n  pass", "0", "call 0: tells 1\n = endless")


class LeavingTest(Story):
    def test_with(self):
        text = "params x y\nwith x() as z:\n z()\nreturn y"
        head = "call 0: tells 2\n enter 2: tells 3\n call 3: "
        self.follow(text, "0 1", head + "tells 4\n exit 2 None: tells 5\n = returns 1")
        self.follow(text, "0 1", head + "tells 4\n exit 2 None: tells True\n = returns 1")
        self.follow(text, "0 1", head + "tells 4\n exit 2 None: raises 1\n = raises 1")
        self.follow(text, "0 1", head + "tells 4\n exit:2 | = raises TypeError")
        self.follow(text, "0 1", head + "raises 4\n exit 2 4: tells True\n = returns 1")
        self.follow(text, "0 1", head + "raises 4\n exit 2 4: tells False\n = raises 4")
        self.follow(text, "0 1", head + "raises 4\n exit 2 4: tells 5\n bool 5: yes\n = returns 1")
        self.follow(text, "0 1", head + "raises 4\n exit 2 4: tells 5\n bool:5 | len 5: empty\n = raises 4")
        self.follow(text, "0 1", head + "raises 4\n exit 2 4: tells 5\n bool 5: raises 6\n = raises 6")
        self.follow(text, "0 1", head + "raises 4\n exit 2 4: tells 5\n bool:5 len:5 | = returns 1")
        self.follow(text, "0 1", head + "raises 4\n exit 2 4: raises 5\n = raises 5")
        self.follow(text, "0 1", head + "raises 4\n exit:2 | = raises TypeError")
        self.follow(text, "0 1", "call 0: tells 2\n enter 2: tells 3\n call:3 | exit 2 TypeError: tells False\n = raises TypeError")
        # The method that leaves is looked for when it is called, and not called if nothing was entered.
        self.follow(text, "0 1", "call 0: tells 2\n exit:2 | enter 2: tells 3\n call 3: tells 4\n exit 2 None: tells 5\n = returns 1")
        self.follow(text, "0 1", "call 0: tells 2\n enter:2 | = raises TypeError")
        self.follow(text, "0 1", "call 0: tells 2\n enter 2: raises 3\n = raises 3")
        self.follow(text, "0 1", "call 0: raises 2\n = raises 2")
        self.follow("params x\nwith None:\n x()", "0", "= raises TypeError")

    def test_with_targets(self):
        text = "params x y\nwith x as y.w:\n x()\nreturn y"
        self.follow(text, "0 1", "enter 0: tells 2\n setattr 1 .w 2: done\n call 0: tells 3\n exit 0 None: tells 3\n = returns 1")
        self.follow(text, "0 1", "enter 0: tells 2\n setattr 1 .w 2: raises 3\n exit 0 3: tells True\n = returns 1")
        self.follow(text, "0 1", "enter 0: tells 2\n setattr:1 | exit 0 TypeError: tells False\n = raises TypeError")
        self.follow("params x\nwith x as y[z]:\n pass", "0", "enter 0: tells 1\n exit 0 NameError: tells True\n = returns None")
        self.follow("params x\nwith x:\n x = None\nreturn x", "0", "enter 0: tells 1\n exit 0 None: tells False\n = returns None")

    def test_with_left_otherwise(self):
        text = "params x\nwith x:\n return x()"
        self.follow(text, "0", "enter 0: tells 1\n call 0: tells 2\n exit 0 None: tells True\n = returns 2")
        self.follow(text, "0", "enter 0: tells 1\n call 0: tells 2\n exit 0 None: raises 1\n = raises 1")
        self.follow(text, "0", "enter 0: tells 1\n call 0: tells 2\n exit:0 | = raises TypeError")
        self.follow(text, "0", "enter 0: tells 1\n call 0: raises 2\n exit 0 2: tells True\n = returns None")
        for word, rest in (("break", "= returns 0"), ("continue", "bool 0: no\n = returns None")):
            text = f"params x\nwhile x:\n with x:\n  {word}\nelse:\n return None\nreturn x"
            self.follow(text, "0", f"bool 0: yes\n enter 0: tells 1\n exit 0 None: tells 1\n {rest}")
            self.follow(text, "0", "bool 0: yes\n enter 0: tells 1\n exit 0 None: raises 1\n = raises 1")
        text = "params x y\nwith x:\n with y:\n  return None"
        self.follow(text, "0 1", "enter 0: tells 2\n enter 1: tells 3\n exit 1 None: tells 4\n exit 0 None: tells 5\n = returns None")
        self.follow(text, "0 1", "enter 0: tells 2\n enter 1: tells 3\n exit 1 None: raises 4\n exit 0 4: tells 5\n bool 5: yes\n = returns None")

    def test_except(self):
        text = "params x y\ntry:\n x()\n x.w\nexcept:\n y()\nreturn y"
        self.follow(text, "0 1", "call 0: tells 2\n getattr 0 .w: tells 3\n = returns 1")
        self.follow(text, "0 1", "call 0: raises 2\n call 1: tells 3\n = returns 1")
        self.follow(text, "0 1", "call 0: raises 2\n call 1: raises 3\n = raises 3")
        self.follow(text, "0 1", "call:0 | call 1: tells 2\n = returns 1")
        self.follow("params x\ntry:\n return x\nexcept:\n return None", "0", "= returns 0")
        self.follow("params x\ntry:\n return y\nexcept:\n return None", "0", "= returns None")

    def test_except_as(self):
        text = "params x y\nkept x y e\ntry:\n x()\nexcept as e:\n y(e)"
        self.follow(text, "0 1", "call 0: tells 2\n = falls None 0 1 unset")
        self.follow(text, "0 1", "call 0: raises 2\n call 1 2: tells 3\n = falls None 0 1 unset")
        self.follow(text, "0 1", "call 0: raises 2\n call 1 2: raises 3\n = raises 3 0 1 unset")
        self.follow(text, "0 1", "call:0 | call 1 TypeError: tells 2\n = falls None 0 1 unset")
        text = "params x y\nkept x y\ntry:\n x()\nexcept as y:\n {}"
        self.follow(text.format("pass"), "0 1", "call 0: tells 2\n = falls None 0 1")
        self.follow(text.format("pass"), "0 1", "call 0: raises 2\n = falls None 0 unset")
        self.follow(text.format("del y"), "0 1", "call 0: raises 2\n = falls None 0 unset")
        self.follow(text.format("y = None"), "0 1", "call 0: raises 2\n = falls None 0 unset")
        self.follow(text.format("return y"), "0 1", "call 0: raises 2\n = returns 2 0 unset")
        self.follow(text.format("raise y"), "0 1", "call 0: raises 2\n = raises 2 0 unset")
        self.follow(text.format("del z"), "0 1", "call 0: raises 2\n = raises NameError 0 unset")
        for error, row in (("NameError", "z"), ("TypeError", "None()"), ("TypeError", "raise None"), ("ValueError", None)):
            if row is not None:
                self.follow(f"params\ntry:\n {row}\nexcept as e:\n raise e", "", f"= raises {error}")
        self.follow("params x\ntry:\n y, z = x\nexcept as e:\n return e", "0", "iter 0: tells 1\n next 1: stop\n = returns ValueError")
        text = "params x\nkept e\nwhile x:\n e = None\n try:\n  raise x\n except as e:\n  {}"
        self.follow(text.format("break"), "0", "bool 0: yes\n = falls None unset")
        self.follow(text.format("continue"), "0", "bool 0: yes\n bool 0: no\n = falls None unset")

    def test_errors_have_no_methods(self):
        text = "params\ntry:\n x\nexcept as e:\n return {}"
        for inner, end in (("e()", "raises TypeError"), ("e.w", "raises TypeError"), ("-e", "raises TypeError"), ("e == e", "returns True"),
                           ("e != e", "returns False"), ("e < e", "raises TypeError"), ("e in e", "raises TypeError"), ("not e", "returns False"),
                           ("e is None", "returns False"), ("e + None", "raises TypeError"), ("e and None", "returns None")):
            self.follow(text.format(inner), "", f"= {end}")

    def test_finally(self):
        text = "params x y\ntry:\n x()\nfinally:\n y()\nreturn x"
        self.follow(text, "0 1", "call 0: tells 2\n call 1: tells 3\n = returns 0")
        self.follow(text, "0 1", "call 0: tells 2\n call 1: raises 3\n = raises 3")
        self.follow(text, "0 1", "call 0: raises 2\n call 1: tells 3\n = raises 2")
        self.follow(text, "0 1", "call 0: raises 2\n call 1: raises 3\n = raises 3")
        self.follow(text, "0 1", "call 0: raises 2\n call:1 | = raises TypeError")
        text = "params x y\ntry:\n return x()\nfinally:\n x = y()\nreturn x"
        self.follow(text, "0 1", "call 0: tells 2\n call 1: tells 3\n = returns 2")
        self.follow(text, "0 1", "call 0: tells 2\n call 1: raises 3\n = raises 3")
        self.follow(text, "0 1", "call 0: raises 2\n call 1: tells 3\n = raises 2")
        for word, rest in (("break", "= returns 0"), ("continue", "bool 0: no\n = returns None")):
            text = f"params x\nwhile x:\n try:\n  {word}\n finally:\n  x()\n x.w\nelse:\n return None\nreturn x"
            self.follow(text, "0", f"bool 0: yes\n call 0: tells 1\n {rest}")
            self.follow(text, "0", "bool 0: yes\n call 0: raises 1\n = raises 1")

    def test_finally_with_inner_raising(self):
        """What was raised first goes on, whatever is raised and caught in the last body."""
        text = "params x y\ntry:\n raise x\nfinally:\n try:\n  raise y\n except as e:\n  y(e)"
        self.follow(text, "0 1", "call 1 1: tells 2\n = raises 0")
        text = "params x y\ntry:\n raise x\nfinally:\n with x:\n  raise y"
        self.follow(text, "0 1", "enter 0: tells 2\n exit 0 1: tells True\n = raises 0")
        self.follow(text, "0 1", "enter 0: tells 2\n exit 0 1: tells False\n = raises 1")
        text = "params x y\ntry:\n return x\nfinally:\n for z in y:\n  if z:\n   break\n  continue"
        self.follow(text, "0 1", "iter 1: tells 2\n next 2: tells 3\n bool 3: no\n next 2: tells 3\n bool 3: yes\n = returns 0")
        text = "params x y\ntry:\n try:\n  return x()\n finally:\n  raise y\nexcept as e:\n return e"
        self.follow(text, "0 1", "call 0: tells 2\n = returns 1")

    def test_what_is_used_later_is_kept(self):
        """What a statement still needs is not lost while others, or parts of it, are done."""
        text = ("params x y z\nkept x y z\nwith x as z[x].w:\n for y[z].v in y:\n  with z as y[x]:\n   for z.w in y:\n"
                "    y[z].w, x[y] = z\n    x[y].w, z = y, x != y != z\n    y.w[z] += x\n    return x(y)")
        run = self.follow(text, "0 1 2", """enter 0: tells 3
            getitem 2 0: tells 4
            setattr 4 .w 3: done
            iter 1: tells 5
            next 5: tells 6
            getitem 1 2: tells 7
            setattr 7 .v 6: done
            enter 2: tells 8
            setitem 1 0 8: done
            iter 1: tells 9
            next 9: tells 10
            setattr 2 .w 10: done
            iter 2: tells 11
            next 11: tells 12
            next 11: tells 13
            next 11: stop
            getitem 1 2: tells 14
            setattr 14 .w 12: done
            setitem 0 1 13: done
            ne:0 | eq 0 1: tells False
            ne:1 eq:1 ne:2 | eq 2 1: tells 15
            bool 15: yes
            getitem 0 1: tells 16
            setattr 16 .w 1: done
            getattr 1 .w: tells 17
            getitem 17 False: tells 18
            iadd 18 0: declines
            add 18 0: tells 19
            setitem 17 False 19: done
            call 0 1: tells 20
            exit 2 None: tells 21
            exit 0 None: tells 22
            = returns 20 0 1 False""")
        self.assertEqual(run.held, {"x": 0, "y": 1, "z": "False"})
        text = "params x y z\nkept x y z\nreturn x((y if x else z) in x[z], x != y != z)"
        self.follow(text, "0 1 2", """bool 0: yes
            getitem 0 2: tells 3
            contains:3 | iter 3: tells 4
            next 4: tells 5
            eq 5 1: tells False
            next 4: stop
            ne:0 eq:0 ne:1 | eq 1 0: tells 6
            bool 6: no
            ne:1 | eq 1 2: tells True
            call 0 False False: tells 7
            = returns 7 0 1 2""")
        text = "params x y z\nkept x y z\nx + (y != x != z) * (x < y < (z := z()))"
        self.follow(text, "0 1 2", """ne:1 | eq 1 0: tells False
            ne:0 | eq 0 2: tells 3
            bool 3: no
            lt 0 1: tells True
            call 2: tells 4
            lt:1 | gt 4 1: tells 5
            rmul 5 True: tells 6
            add 0 6: tells 7
            = falls None 0 1 4""")

    def test_nested_leaving(self):
        text = ("params x y\nwhile x:\n try:\n  with y:\n   try:\n    continue\n   finally:\n    x()\n finally:\n  y()\nreturn y")
        self.follow(text, "0 1", "bool 0: yes\n enter 1: tells 2\n call 0: tells 3\n exit 1 None: tells 4\n call 1: tells 5\n bool 0: no\n = returns 1")
        self.follow(text, "0 1", "bool 0: yes\n enter 1: tells 2\n call 0: raises 3\n exit 1 3: tells True\n call 1: tells 4\n bool 0: no\n = returns 1")
        self.follow(text, "0 1", "bool 0: yes\n enter 1: tells 2\n call 0: raises 3\n exit 1 3: tells False\n call 1: tells 4\n = raises 3")
        text = "params x y\ntry:\n try:\n  raise x\n finally:\n  y()\nexcept as x:\n return x"
        self.follow(text, "0 1", "call 1: tells 2\n = returns 0")
        self.follow(text, "0 1", "call 1: raises 2\n = returns 2")
        text = "params x y\nwhile True:\n for x in y:\n  with y:\n   return x\n break"
        self.follow(text, "0 1", "iter 1: tells 2\n next 2: tells 3\n enter 1: tells 4\n exit 1 None: tells 5\n = returns 3")


if __name__ == "__main__":
    unittest.main()
