"""Which names are wanted where in a piece, by its text alone.

Names are told as masks: numbers in which each name has a bit of its own. `then` has the names that
are wanted where a statement or expression goes on; the ways are a dict from "raise" and, where they
may stand, "return", "break" and "continue" to the names that are wanted where these go on.
"""

from pieceasks.forms import EXPRESSIONS, bodies, inner_parts, is_constant
from pieceasks.nesting import count_rows


def joined(masks):
    """The names that are in some of these."""
    found = 0
    for mask in masks:
        found |= mask
    return found


class Lives:
    """Tells which names are wanted ahead of statements and behind them."""

    def __init__(self, names):
        self.bits = {name: 1 << at for at, name in enumerate(names)}

    def mask(self, names):
        """The mask of some names."""
        return joined([self.bits[name] for name in names])

    def ahead_of_value(self, value, then, raised):
        """What is wanted ahead of an expression."""
        if isinstance(value, str):
            return then | raised | self.bits[value]
        if is_constant(value):
            return then
        then = then | raised
        match value[0]:
            case ":=":
                return self.ahead_of_value(value[2], then & ~self.bits[value[1]], raised)
            case "and" | "or":
                second = self.ahead_of_value(value[2], then, raised)
                return self.ahead_of_value(value[1], second | then, raised)
            case "if":
                one, other = [self.ahead_of_value(choice, then, raised) for choice in value[2:]]
                return self.ahead_of_value(value[1], one | other, raised)
            case "chain":
                last = self.ahead_of_value(value[5], then, raised)
                return self.ahead_of_values((value[2], value[4]), last | then, raised)
            case word:
                return self.ahead_of_values(inner_parts(EXPRESSIONS[word], value[1:]), then, raised)

    def ahead_of_values(self, values, then, raised):
        """What is wanted ahead of expressions that are worked out from the left."""
        for value in reversed(list(values)):
            then = self.ahead_of_value(value, then, raised)
        return then

    def ahead_of_target(self, target, then, raised):
        """What is wanted ahead of setting a target."""
        if isinstance(target, str):
            return then & ~self.bits[target]
        return self.ahead_of_values(_target_values(target), then | raised, raised)

    def ahead_of_rows(self, rows, then, ways):
        """What is wanted ahead of statements that follow one another."""
        for row in reversed(list(rows)):
            then = self._ahead_of_row(row, then, ways)
        return then

    def _ahead_of_row(self, row, then, ways):
        """What is wanted ahead of a statement."""
        match row[0]:
            case "pass":
                return then
            case "break" | "continue":
                return ways[row[0]]
            case "do":
                return self.ahead_of_value(row[1], then, ways["raise"])
            case "return" | "raise":
                return self.ahead_of_value(row[1], ways[row[0]], ways["raise"])
            case "set" | "take" | "swap":
                return self._ahead_of_setting(row, then, ways["raise"])
            case "aug":
                return self._ahead_of_in_place(row, then, ways["raise"])
            case "del":
                return self._ahead_of_deleting(row[1], then, ways["raise"])
            case _:
                return self._ahead_of_block(row, then, ways)

    def _ahead_of_setting(self, row, then, raised):
        """What is wanted ahead of a statement that sets one or two targets."""
        targets = (row[1],) if row[0] == "set" else row[1]
        for target in reversed(list(targets)):
            then = self.ahead_of_target(target, then, raised)
        if row[0] == "take":
            return self.ahead_of_value(row[2], then | raised, raised)
        return self.ahead_of_values(row[2] if row[0] == "swap" else (row[2],), then, raised)

    def _ahead_of_in_place(self, row, then, raised):
        """What is wanted ahead of an in-place statement."""
        _, _, target, value = row
        if isinstance(target, str):
            added = self.ahead_of_value(value, then & ~self.bits[target] | raised, raised)
            return self.ahead_of_value(target, added, raised)
        added = self.ahead_of_value(value, then | raised, raised)
        return self.ahead_of_values(_target_values(target), added | raised, raised)

    def _ahead_of_deleting(self, target, then, raised):
        """What is wanted ahead of deleting a target."""
        if isinstance(target, str):
            return then | raised | self.bits[target]
        return self.ahead_of_values(_target_values(target), then | raised, raised)

    def _ahead_of_block(self, row, then, ways):
        """What is wanted ahead of a statement with bodies."""
        raised = ways["raise"]
        match row[0]:
            case "while":
                return self._ahead_of_round(row, then, ways)
            case "for":
                return self.ahead_of_value(row[2], self._ahead_of_round(row, then, ways), raised)
            case "if":
                one, other = [self._ahead_of_body(row, at, then, ways) for at in (0, 1)]
                return self.ahead_of_value(row[1], one | other, raised)
            case "with":
                return self._ahead_of_with(row, then, ways)
            case _:
                return self._ahead_of_body(row, 0, then, ways)

    def _ahead_of_body(self, row, at, then, ways):
        """What is wanted ahead of one of the bodies of a statement."""
        inner_then, inner_ways = self._around(row, at, then, ways)
        return self.ahead_of_rows(bodies(row)[at], inner_then, inner_ways)

    def _ahead_of_with(self, row, then, ways):
        """What is wanted ahead of a `with`: what raises when its target is set, does so in its body."""
        inner_then, inner_ways = self._around(row, 0, then, ways)
        entered = self.ahead_of_rows(row[3], inner_then, inner_ways)
        if row[2] is not None:
            entered = self.ahead_of_target(row[2], entered, inner_ways["raise"])
        return self.ahead_of_value(row[1], entered | ways["raise"], ways["raise"])

    def _ahead_of_round(self, row, then, ways):
        """What is wanted ahead of each round of a loop."""
        _, _, value, body, other = row if row[0] == "for" else (None, *row)
        raised = ways["raise"]
        stopped = self.ahead_of_rows(other, then, ways)
        found = -1
        again = 0
        while found != again:
            found = again
            inner = self.ahead_of_rows(body, again, {**ways, "break": then, "continue": again})
            if row[0] == "for":
                again = raised | stopped | self.ahead_of_target(row[1], inner, raised)
            else:
                again = self.ahead_of_value(value, inner | stopped, raised)
        return again

    def _around(self, row, at, then, ways):
        """Where a body of a statement goes on at its end, and its ways."""
        raised = ways["raise"]
        match row[0]:
            case "while" | "for":
                if at == 1:
                    return then, ways
                again = self._ahead_of_round(row, then, ways)
                return again, {**ways, "break": then, "continue": again}
            case "with":
                # What `exit` raises goes on outside; and it may end what was raised.
                inner = {word: ways[word] | raised for word in ways}
                return then | raised, {**inner, "raise": then | raised}
            case "except":
                lost = 0 if row[2] is None else self.bits[row[2]]
                leaving = {word: ways[word] & ~lost for word in ways}
                if at == 1:
                    return then & ~lost, leaving
                return then, {**ways, "raise": self.ahead_of_rows(row[3], then & ~lost, leaving) & ~lost}
            case "finally":
                lasting = {"raise": raised}
                if at == 1:
                    return then | joined(list(ways.values())), lasting
                inner = {word: self.ahead_of_rows(row[2], ways[word], lasting) for word in ways}
                return self.ahead_of_rows(row[2], then, lasting), inner
            case _:
                return then, ways

    def behind_rows(self, body, at, many, then, ways):
        """What is wanted behind the so many statements from a place on, which are there."""
        start = 0
        for index, row in enumerate(body):
            if start == at:
                return self.ahead_of_rows(body[index + many:], then, ways) | joined(list(ways.values()))
            inner_start = start + 1
            for number, inner in enumerate(bodies(row)):
                size = count_rows(inner)
                if at < inner_start + size:
                    behind = self.ahead_of_rows(body[index + 1:], then, ways)
                    inner_then, inner_ways = self._around(row, number, behind, ways)
                    return self.behind_rows(inner, at - inner_start, many, inner_then, inner_ways)
                inner_start = inner_start + size
            start = inner_start
        return then


def _target_values(target):
    """The expressions of an item or attribute."""
    return target[1:] if target[0] == "item" else target[1:2]
