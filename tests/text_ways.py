"""Ways through a piece by its text alone, taken at random: what [36] says, told by Python's own errors and `finally`.

`Stroll` begins behind some statements of a piece, goes on by chance, and notes for each name whether it is read or
deleted first, or set. It shares nothing with the package.
"""

import random


class Raised(Exception):
    pass


class Left(Exception):
    """By `return`, `break` or `continue`."""

    def __init__(self, word):
        self.word = word


def bodies_of(row):
    """The places of the bodies among the items of a statement."""
    return {"if": (2, 3), "while": (2, 3), "for": (3, 4), "with": (3,), "except": (1, 3), "finally": (1, 2)}.get(row[0], ())


def size(rows):
    return sum(1 + sum(size(row[at]) for at in bodies_of(row)) for row in rows)


class Stroll:
    def __init__(self, piece, at, many, dice, raising=0.12):
        self.piece, self.many, self.dice, self.raising = piece, many, dice, raising
        self.first = {}
        self.steps = 0
        try:
            self.rows(piece.body, at, False, False)
        except (Raised, Left):
            pass
        for name in piece.kept or ():
            self.reads(name)

    def wanted(self):
        return {name for name, word in self.first.items() if word == "read"}

    def reads(self, name):
        self.first.setdefault(name, "read")

    def sets(self, name):
        self.first.setdefault(name, "set")

    def coin(self):
        return self.dice.random() < 0.5

    def may_raise(self):
        self.steps += 1
        if self.dice.random() < self.raising or self.steps > 400:
            raise Raised

    def value(self, e):
        if isinstance(e, str):
            self.reads(e)
        elif e[0] in ("None", "True", "False"):
            return
        elif e[0] == ":=":
            self.value(e[2])
            self.sets(e[1])
        elif e[0] in ("and", "or"):
            self.value(e[1])
            if self.coin():
                self.value(e[2])
        elif e[0] == "if":
            self.value(e[1])
            self.value(e[2] if self.coin() else e[3])
        elif e[0] == "chain":
            self.value(e[2])
            self.value(e[4])
            if self.coin():
                self.value(e[5])
        elif e[0] == "compare":
            self.value(e[2])
            self.value(e[3])
        elif e[0] == "call":
            for part in (e[1],) + e[2]:
                self.value(part)
        elif e[0] == "attr":
            self.value(e[1])
        else:
            for part in e[1:]:
                self.value(part)
        self.may_raise()

    def target(self, t):
        if isinstance(t, str):
            self.sets(t)
            return
        self.value(t[1])
        if t[0] == "item":
            self.value(t[2])
        self.may_raise()

    def rows(self, rows, at, loop, last):
        """Statements from their begin (`at` is None), or those behind a place."""
        start = 0
        for index, row in enumerate(rows):
            if at is None:
                self.row(row, None, loop, last)
            elif start == at:
                words = ["end", "raise"] + ([] if last else ["return"]) + (["break", "continue"] if loop else [])
                self.leave(self.dice.choice(words))
                return self.rows(rows[index + self.many:], None, loop, last)
            elif at < start + size((row,)):
                self.row(row, at - start - 1, loop, last)
                at = None
            start += size((row,))

    def leave(self, word):
        if word == "raise":
            raise Raised
        if word != "end":
            raise Left(word)

    def row(self, row, at, loop, last):
        """A statement, or what comes behind a place in its bodies."""
        getattr(self, "do_" + row[0])(row, at, loop, last)

    def do_pass(self, row, at, loop, last):
        pass

    def do_break(self, row, at, loop, last):
        raise Left("break")

    def do_continue(self, row, at, loop, last):
        raise Left("continue")

    def do_do(self, row, at, loop, last):
        self.value(row[1])

    def do_return(self, row, at, loop, last):
        self.value(row[1])
        raise Left("return")

    def do_raise(self, row, at, loop, last):
        self.value(row[1])
        raise Raised

    def do_set(self, row, at, loop, last):
        self.value(row[2])
        self.target(row[1])

    def do_take(self, row, at, loop, last):
        self.value(row[2])
        self.may_raise()
        self.target(row[1][0])
        self.target(row[1][1])

    def do_swap(self, row, at, loop, last):
        self.value(row[2][0])
        self.value(row[2][1])
        self.target(row[1][0])
        self.target(row[1][1])

    def do_aug(self, row, at, loop, last):
        target = row[2]
        self.value(target)
        self.value(row[3])
        self.may_raise()
        if isinstance(target, str):
            self.sets(target)
        else:
            self.may_raise()

    def do_del(self, row, at, loop, last):
        if isinstance(row[1], str):
            self.reads(row[1])
        else:
            for part in row[1][1:] if row[1][0] == "item" else row[1][1:2]:
                self.value(part)
        self.may_raise()

    def do_if(self, row, at, loop, last):
        if at is None:
            self.value(row[1])
            return self.rows(row[2] if self.coin() else row[3], None, loop, last)
        if at < size(row[2]):
            return self.rows(row[2], at, loop, last)
        self.rows(row[3], at - size(row[2]), loop, last)

    def do_while(self, row, at, loop, last):
        self.round(row[2], row[3], at, loop, last, lambda: self.value(row[1]))

    def do_for(self, row, at, loop, last):
        def ahead():
            self.may_raise()

        if at is None:
            self.value(row[2])
            self.may_raise()
        self.round(row[3], row[4], at, loop, last, ahead, lambda: self.target(row[1]))

    def round(self, body, other, at, loop, last, ahead, entering=lambda: None):
        if at is not None and at >= size(body):
            return self.rows(other, at - size(body), loop, last)
        try:
            while True:
                if at is None:
                    ahead()
                    if self.coin():
                        break
                    entering()
                try:
                    self.rows(body, at, True, last)
                except Left as left:
                    if left.word != "continue":
                        raise
                at = None
        except Left as left:
            if left.word != "break":
                raise
            return
        self.rows(other, None, loop, last)

    def do_with(self, row, at, loop, last):
        if at is None:
            self.value(row[1])
            self.may_raise()
        swallow = self.coin()
        try:
            if at is None and row[2] is not None:
                self.target(row[2])
            self.rows(row[3], at, loop, last)
        except Raised:
            self.may_raise()
            if not swallow:
                raise
        except Left:
            self.may_raise()
            raise
        else:
            self.may_raise()

    def do_except(self, row, at, loop, last):
        if at is not None and at >= size(row[1]):
            return self.handler(row, at - size(row[1]), loop, last)
        try:
            self.rows(row[1], at, loop, last)
        except Raised:
            if row[2] is not None:
                self.sets(row[2])
            self.handler(row, None, loop, last)

    def handler(self, row, at, loop, last):
        try:
            self.rows(row[3], at, loop, last)
        finally:
            if row[2] is not None:
                self.sets(row[2])

    def do_finally(self, row, at, loop, last):
        words = ["end", "raise"] + ([] if last else ["return"]) + (["break", "continue"] if loop else [])
        behind = at is not None and at >= size(row[1])
        try:
            if behind:
                self.leave(self.dice.choice(words))
            else:
                self.rows(row[1], at, loop, last)
        finally:
            self.rows(row[2], at - size(row[1]) if behind else None, False, True)


def wanted_by_chance(piece, at, many, rounds, seed=0):
    """The names that are found to be wanted on so many ways."""
    dice = random.Random(seed)
    found = set()
    for _ in range(rounds):
        found |= Stroll(piece, at, many, dice, dice.choice((0.03, 0.12, 0.3))).wanted()
    return tuple(sorted(found))
