"""What the tests share: pieces made at random, and a second way to run a piece.

`Walk` works a piece out as a tree, straight from the tables of the document, and shares nothing
with the package. `random_piece` makes pieces of all forms from a seed.
"""

import random

from pieceasks.pieces import Piece

NAMES = ("x", "y", "f", "it", "w")
SIGNS = ("+", "-", "*")
LINKS = ("==", "!=", "<", "<=", ">", ">=")
COMPARISONS = LINKS + ("in", "not in", "is", "is not")


# Pieces made at random.

class Maker:
    """Makes pieces; the plain ones have simple expressions, and so get further in a run."""

    def __init__(self, dice, names=NAMES, plain=False):
        self.dice = dice
        self.names = names
        self.plain = plain

    def expression(self, depth):
        """An expression that is nested at most so deep."""
        if depth <= 1 or self.dice.random() < 0.3:
            if self.dice.random() < 0.1:
                return (self.dice.choice(("None", "True", "False")),)
            return self.dice.choice(self.names)

        def inner():
            return self.expression(depth - 1)

        word = self.dice.choice(("sum", "neg", "compare", "compare", "chain", "not", "and", "or",
                                 "item", "attr", "call", "if", ":="))
        if word == "sum":
            return (self.dice.choice(SIGNS), inner(), inner())
        if word in ("neg", "not"):
            return (word, inner())
        if word == "compare":
            return (word, self.dice.choice(COMPARISONS), inner(), inner())
        if word == "chain":
            return (word, self.dice.choice(LINKS), inner(), self.dice.choice(LINKS), inner(), inner())
        if word == "attr":
            return (word, inner(), self.dice.choice(("w", "v")))
        if word == "call":
            return (word, inner(), tuple(inner() for _ in range(self.dice.randrange(3))))
        if word == "if":
            return (word, inner(), inner(), inner())
        if word == ":=":
            return (word, self.dice.choice(self.names), inner())
        return (word, inner(), inner())

    def value(self):
        """An expression of a statement."""
        if self.plain:
            name = self.dice.choice(self.names)
            return ("call", name, ()) if self.dice.random() < 0.3 else name
        return self.expression(self.dice.choice((1, 1, 2, 2, 3)))

    def target(self):
        """A target."""
        if self.plain or self.dice.random() < 0.6:
            return self.dice.choice(self.names)
        if self.dice.random() < 0.5:
            return ("item", self.expression(2), self.expression(1))
        return ("attr", self.expression(2), self.dice.choice(("w", "v")))

    def body(self, deep, loop, last, many=2):
        """A body with at most so many statements."""
        return tuple(self.statement(deep, loop, last) for _ in range(self.dice.randrange(1, many + 1)))

    def statement(self, deep, loop, last):
        """A statement, in a loop or not, in a last body or not, with bodies nested so deep."""
        words = ["set", "set", "do", "do", "pass", "raise"]
        if not self.plain:
            words.extend(["take", "swap", "aug", "aug", "del"])
        if not last:
            words.append("return")
        if loop:
            words.extend(["break", "continue"])
        if deep > 0:
            words.extend(["if", "while", "for", "with", "except", "finally"] * 2)
        word = self.dice.choice(words)
        if word in ("if", "while", "for", "with", "except", "finally"):
            return self.block(word, deep - 1, loop, last)
        if word == "set":
            return (word, self.target(), self.value())
        if word == "take":
            return (word, (self.target(), self.target()), self.value())
        if word == "swap":
            return (word, (self.target(), self.target()), (self.value(), self.value()))
        if word == "aug":
            return (word, self.dice.choice(SIGNS), self.target(), self.value())
        if word == "del":
            return (word, self.target())
        if word in ("do", "raise", "return"):
            return (word, self.value())
        return (word,)

    def block(self, word, deep, loop, last):
        """A statement with bodies that are nested so deep."""
        def body(looping=loop, ending=last):
            return self.body(deep, looping, ending)

        def other():
            return body() if self.dice.random() < 0.4 else ()

        if word == "if":
            return (word, self.value(), body(), other())
        if word == "while":
            return (word, self.value(), body(True), other())
        if word == "for":
            return (word, self.target(), self.value(), body(True), other())
        if word == "with":
            return (word, self.value(), self.dice.choice((None, self.target())), body())
        if word == "except":
            return (word, body(), self.dice.choice((None, self.dice.choice(self.names))), body())
        return (word, body(), body(False, True))


def random_piece(dice, deep=3, many=3, plain=False):
    """A whole piece or a part."""
    params = tuple(dice.sample(NAMES, dice.choice((0, 1, 2, 2, 3, 3))))
    kept = tuple(dice.sample(NAMES, dice.randrange(4))) if dice.random() < 0.4 else None
    names = params if params and dice.random() < 0.8 else NAMES
    return Piece(params, Maker(dice, names, plain).body(deep, False, False, many), kept)


# A second way to run a piece.

CONSTANTS = ("None", "True", "False")


class Thrown(Exception):
    def __init__(self, thing):
        self.thing = thing


class Left(Exception):
    """By `break`, `continue` or `return`."""

    def __init__(self, word, thing="None"):
        self.word = word
        self.thing = thing


class Ended(Exception):
    def __init__(self, end):
        self.end = end


class Asked(Exception):
    def __init__(self, call):
        self.call = call


def turned(word):
    return "False" if word == "True" else "True"


class Walk:
    """A piece on a begin, answers and what is lacking at each moment: walked once, as a tree."""

    def __init__(self, piece, begin, answers, lackings):
        self.names = {name: thing for name, thing in zip(piece.params, begin) if thing != "unset"}
        self.piece = piece
        self.answers = answers
        self.lackings = lackings
        self.calls = []
        self.held = dict(self.names)

    def outcome(self):
        """The call that is not answered yet, or the end."""
        try:
            return self.end()
        except Asked as asked:
            return asked.call
        except Ended as ended:
            return ended.end

    def kept(self):
        return tuple(self.names.get(name, "unset") for name in self.piece.kept or ())

    def end(self):
        try:
            self.do_all(self.piece.body)
        except Thrown as thrown:
            return ("raises", thrown.thing, self.kept())
        except Left as left:
            assert left.word == "return"
            return ("returns", left.thing, self.kept())
        return ("returns" if self.piece.kept is None else "falls", "None", self.kept())

    # Calls.

    def has(self, thing, method):
        lacking = self.lackings[len(self.calls)] if len(self.calls) < len(self.lackings) else ()
        return not isinstance(thing, str) and (method, thing) not in lacking

    def call(self, method, *args):
        call = (method,) + args
        if len(self.calls) == len(self.answers):
            raise Asked(call)
        self.calls.append(call)
        self.held = dict(self.names)
        answer = self.answers[len(self.calls) - 1]
        if answer[0] == "raises":
            raise Thrown(answer[1])
        return answer

    def sure(self, method, thing, *args):
        if not self.has(thing, method):
            raise Thrown("TypeError")
        return self.call(method, thing, *args)[-1]

    def maybe(self, method, thing, other):
        """What is told, or None if the thing lacks the method or declines."""
        if not self.has(thing, method):
            return None
        answer = self.call(method, thing, other)
        return None if answer == ("declines",) else answer[1]

    def truth(self, thing):
        if thing in CONSTANTS or isinstance(thing, str):
            return thing not in ("None", "False")
        if self.has(thing, "bool"):
            return self.call("bool", thing) == ("yes",)
        if self.has(thing, "len"):
            return self.call("len", thing) == ("some",)
        return True

    # Expressions.

    def value(self, e):
        if isinstance(e, str):
            if e not in self.names:
                raise Thrown("NameError")
            return self.names[e]
        return getattr(self, "value_" + {"+": "sum", "-": "sum", "*": "sum", ":=": "walrus"}.get(e[0], e[0]))(e)

    def value_None(self, e):
        return "None"

    def value_True(self, e):
        return "True"

    def value_False(self, e):
        return "False"

    def value_sum(self, e):
        one = self.value(e[1])
        return self.sum(e[0], one, self.value(e[2]))

    def sum(self, sign, one, other):
        method = {"+": "add", "-": "sub", "*": "mul"}[sign]
        told = self.maybe(method, one, other)
        if told is None and one != other:
            told = self.maybe("r" + method, other, one)
        if told is None:
            raise Thrown("TypeError")
        return told

    def value_neg(self, e):
        return self.sure("neg", self.value(e[1]))

    def value_item(self, e):
        one = self.value(e[1])
        return self.sure("getitem", one, self.value(e[2]))

    def value_attr(self, e):
        return self.sure("getattr", self.value(e[1]), "." + e[2])

    def value_call(self, e):
        one = self.value(e[1])
        return self.sure("call", one, *[self.value(part) for part in e[2]])

    def value_compare(self, e):
        one = self.value(e[2])
        return self.relation(e[1], one, self.value(e[3]))

    def relation(self, sign, one, other):
        if sign == "==":
            return self.equal(one, other)
        if sign == "!=":
            return self.unequal(one, other)
        if sign == "is":
            return str(one == other)
        if sign == "is not":
            return str(one != other)
        if sign == "in":
            return self.within(one, other)
        if sign == "not in":
            return turned(self.within(one, other))
        pairs = {"<": ("lt", "gt"), "<=": ("le", "ge"), ">": ("gt", "lt"), ">=": ("ge", "le")}
        told = self.maybe(pairs[sign][0], one, other)
        if told is None:
            told = self.maybe(pairs[sign][1], other, one)
        if told is None:
            raise Thrown("TypeError")
        return told

    def equal(self, one, other):
        told = self.maybe("eq", one, other)
        if told is None:
            told = self.maybe("eq", other, one)
        return str(one == other) if told is None else told

    def ne(self, one, other):
        if self.has(one, "ne"):
            return self.maybe("ne", one, other)
        told = self.maybe("eq", one, other)
        return None if told is None else str(not self.truth(told))

    def unequal(self, one, other):
        told = self.ne(one, other)
        if told is None:
            told = self.ne(other, one)
        return str(one != other) if told is None else told

    def within(self, one, other):
        if self.has(other, "contains"):
            return str(self.truth(self.call("contains", other, one)[1]))
        walker = self.sure("iter", other)
        while (thing := self.step(walker)) is not None:
            if thing == one or self.truth(self.equal(thing, one)):
                return "True"
        return "False"

    def step(self, walker):
        """The next thing, or None at the end."""
        if not self.has(walker, "next"):
            raise Thrown("TypeError")
        answer = self.call("next", walker)
        return None if answer == ("stop",) else answer[1]

    def value_chain(self, e):
        _, sign, first, link, middle, last = e
        one = self.value(first)
        other = self.value(middle)
        told = self.relation(sign, one, other)
        return self.relation(link, other, self.value(last)) if self.truth(told) else told

    def value_not(self, e):
        return str(not self.truth(self.value(e[1])))

    def value_and(self, e):
        one = self.value(e[1])
        return self.value(e[2]) if self.truth(one) else one

    def value_or(self, e):
        one = self.value(e[1])
        return one if self.truth(one) else self.value(e[2])

    def value_if(self, e):
        return self.value(e[2] if self.truth(self.value(e[1])) else e[3])

    def value_walrus(self, e):
        self.names[e[1]] = self.value(e[2])
        return self.names[e[1]]

    # Statements.

    def put(self, target, thing):
        if isinstance(target, str):
            self.names[target] = thing
            return
        one = self.value(target[1])
        if target[0] == "item":
            self.sure("setitem", one, self.value(target[2]), thing)
        else:
            self.sure("setattr", one, "." + target[2], thing)

    def do_all(self, rows):
        for row in rows:
            getattr(self, "do_" + row[0])(row)

    def do_pass(self, row):
        pass

    def do_set(self, row):
        self.put(row[1], self.value(row[2]))

    def do_take(self, row):
        walker = self.sure("iter", self.value(row[2]))
        things = []
        for _ in range(3):
            thing = self.step(walker)
            if (thing is None) != (len(things) == 2):
                raise Thrown("ValueError")
            things.append(thing)
        self.put(row[1][0], things[0])
        self.put(row[1][1], things[1])

    def do_swap(self, row):
        things = [self.value(part) for part in row[2]]
        self.put(row[1][0], things[0])
        self.put(row[1][1], things[1])

    def do_aug(self, row):
        _, sign, target, value = row
        if isinstance(target, str):
            self.names[target] = self.new(sign, self.value(target), value)
            return
        one = self.value(target[1])
        if target[0] == "item":
            key = self.value(target[2])
            new = self.new(sign, self.sure("getitem", one, key), value)
            self.sure("setitem", one, key, new)
        else:
            new = self.new(sign, self.sure("getattr", one, "." + target[2]), value)
            self.sure("setattr", one, "." + target[2], new)

    def new(self, sign, one, value):
        other = self.value(value)
        told = self.maybe({"+": "iadd", "-": "isub", "*": "imul"}[sign], one, other)
        return self.sum(sign, one, other) if told is None else told

    def do_del(self, row):
        target = row[1]
        if isinstance(target, str):
            self.value(target)
            del self.names[target]
            return
        one = self.value(target[1])
        if target[0] == "item":
            self.sure("delitem", one, self.value(target[2]))
        else:
            self.sure("delattr", one, "." + target[2])

    def do_do(self, row):
        self.value(row[1])

    def do_if(self, row):
        self.do_all(row[2] if self.truth(self.value(row[1])) else row[3])

    def do_while(self, row):
        seen = []
        while True:
            here = (len(self.calls), dict(self.names))
            if here in seen:
                raise Ended(("endless",))
            seen.append(here)
            if not self.truth(self.value(row[1])):
                return self.do_all(row[3])
            if self.round(row[2]):
                return None

    def do_for(self, row):
        walker = self.sure("iter", self.value(row[2]))
        while (thing := self.step(walker)) is not None:
            if self.round(row[3], row[1], thing):
                return
        self.do_all(row[4])

    def round(self, body, target=None, thing=None):
        """Whether the loop is left by `break`."""
        if target is not None:
            self.put(target, thing)
        try:
            self.do_all(body)
        except Left as left:
            if left.word == "return":
                raise
            return left.word == "break"
        return False

    def do_break(self, row):
        raise Left("break")

    def do_continue(self, row):
        raise Left("continue")

    def do_return(self, row):
        raise Left("return", self.value(row[1]))

    def do_raise(self, row):
        thing = self.value(row[1])
        raise Thrown("TypeError" if thing in CONSTANTS else thing)

    def do_with(self, row):
        one = self.value(row[1])
        told = self.sure("enter", one)
        try:
            if row[2] is not None:
                self.put(row[2], told)
            self.do_all(row[3])
        except Thrown as thrown:
            if not self.truth(self.sure("exit", one, thrown.thing)):
                raise
            return
        except Left:
            self.sure("exit", one, "None")
            raise
        self.sure("exit", one, "None")

    def do_except(self, row):
        try:
            self.do_all(row[1])
            return
        except Thrown as thrown:
            thing = thrown.thing
        if row[2] is None:
            self.do_all(row[3])
            return
        self.names[row[2]] = thing
        try:
            self.do_all(row[3])
        except (Thrown, Left):
            self.names.pop(row[2], None)
            raise
        self.names.pop(row[2], None)

    def do_finally(self, row):
        try:
            self.do_all(row[1])
        except (Thrown, Left):
            self.do_all(row[2])
            raise
        self.do_all(row[2])


# A second way to compare pieces: all books, one after the other.

DECLINING = "add sub mul radd rsub rmul iadd isub imul eq ne lt le gt ge".split()
TRUTHS = "eq ne lt le gt ge contains exit".split()


def answers_to(call, many, vows=()):
    """All answers to a call where so many things came before, as promises say."""
    method = call[0]
    words = {"next": ("stop",), "bool": ("no", "yes"), "len": ("empty", "some")}.get(method, ())
    if method in ("delitem", "setitem", "delattr", "setattr"):
        words = ("done",)
    if method in DECLINING and ("takes", method) not in vows:
        words = ("declines",)
    found = [(word,) for word in words]
    things = list(range(many + 1))
    if ("calm", method) not in vows:
        found += [("raises", thing) for thing in things]
    if method not in ("bool", "len", "delitem", "setitem", "delattr", "setattr"):
        if method in TRUTHS:
            things += ["True", "False"]
        if ("truth", method) in vows:
            things = ["True", "False"]
        if ("itself", method) in vows:
            things = [call[1]]
        found += [("tells", thing) for thing in things]
    return found


class Undecided(Exception):
    def __init__(self, key):
        self.key = key


class Lazy(Walk):
    """A walk whose look-ups of the last moment are decided when they are made."""

    def has(self, thing, method):
        if isinstance(thing, str):
            return False
        looks = self.lackings[len(self.calls)]
        if (method, thing) not in looks:
            raise Undecided((method, thing))
        return looks[method, thing]


def lazy_outcomes(one, other, begin, answers, looks, vows):
    """All outcomes of both behind these answers, with the look-ups that lead to them."""
    try:
        walks = [Lazy(piece, begin, answers, looks) for piece in (one, other)]
        found = [(walk, walk.outcome()) for walk in walks]
        return [(found[0][1], found[1][1], looks, len(found[0][0].calls))]
    except Undecided as undecided:
        method = undecided.key[0]
        outcomes = []
        for there in (True, False):
            if ("bare" if there else "has", method) not in vows:
                more = looks[:-1] + [{**looks[-1], undecided.key: there}]
                outcomes += lazy_outcomes(one, other, begin, answers, more, vows)
        return outcomes


def all_begins(params, is_part):
    """All begins for so many params."""
    found = [()]
    for _ in range(params):
        found = [begin + (thing,) for begin in found
                 for thing in [*range(len({part for part in begin if isinstance(part, int)}) + 1)]
                 + (["None", "True", "False", "TypeError", "ValueError", "NameError", "unset"] if is_part else [])]
    return found


def least_parting(one, other, most, vows=()):
    """The least number of answers, up to the most, on which both part; or None."""
    rows = [(begin, [], [{}]) for begin in all_begins(len(one.params), one.kept is not None)]
    for many in range(most + 1):
        longer = []
        for begin, answers, looks in rows:
            for first, second, decided, calls in lazy_outcomes(one, other, begin, answers, looks, vows):
                if first != second:
                    return many
                if first[0] in ("returns", "raises", "falls", "endless") or many == most:
                    continue
                things = {part for part in begin if isinstance(part, int)}
                things |= {answer[1] for answer in answers if len(answer) == 2 and isinstance(answer[1], int)}
                longer += [(begin, answers + [answer], decided + [{}]) for answer in answers_to(first, len(things), vows)]
        rows = longer
    return None
