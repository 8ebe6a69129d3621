"""What two machines may come to from a state: at one moment, and behind an answer to a call.

A state is a triple of a node of each machine and the values of the slots that are wanted there, of
the first machine and then of the second one. Things are numbered in it from 0 in the order in which
they occur, so that states that differ in the names of things alone are one. A begin is a state, too:
it has None for both nodes.
"""

from pieceasks.stands import HOLE, looker_of, matches
from pieceasks.things import CONSTANTS, ERRORS, UNSET, count_things
from pieceasks.vows import allowed_answers, fixed_looks

# What stands for itself wherever things are numbered.
THEMSELVES = {
    "None": "None", "True": "True", "False": "False",
    "TypeError": "TypeError", "ValueError": "ValueError", "NameError": "NameError", "unset": "unset",
}


def renumbered(values):
    """Values with numbers by first occurrence, and the numbers that stood for these."""
    numbers = dict(THEMSELVES)
    already = len(numbers)
    found = tuple([numbers.setdefault(value, len(numbers) - already) for value in values])
    return found, tuple(numbers)[already:]


def begins(shape):
    """All begins for pieces or codes of a shape."""
    params, kept = shape
    found = [()]
    for _ in range(params):
        found = _longer_begins(found, kept is not None)
    return found


def _longer_begins(shorter, is_part):
    """All begins that have one thing more than some of these."""
    beside = [UNSET, *CONSTANTS, *ERRORS] if is_part else []
    found = []
    for begin in shorter:
        things = [*list(range(count_things(begin), -1, -1)), *beside]
        found.extend([(*begin, thing) for thing in things])
    return found


class Moves:
    """What two machines may come to, where promises are kept."""

    def __init__(self, one, other, vows):
        fixed = fixed_looks(vows)
        self.one = looker_of(one, fixed)
        self.other = looker_of(other, fixed)
        self.vows = vows
        self.known = {}

    def leaves(self, state):
        """The pairs of what both may come to from a state at one moment."""
        one, other, values = state
        found = []
        if one is None:
            matches(self.one.tree_first(values), self.other.tree_first(values), {}, found)
        else:
            many = len(self.one.wanted_at(one))
            matches(self.one.tree(one, values[:many]), self.other.tree(other, values[many:]), {}, found)
        return found

    def behind(self, one, other):
        """Where the answers to a call that both make lead, of a pair of leaves.

        For each first word that is allowed these are a triple of what `onward` tells of both and a
        pair of the word and of which things it tells or raises.
        """
        method = one[1][0]
        if method not in self.known:
            self.known[method] = allowed_answers(self.vows, method)
        onward, onward_there = self.one.onward(one), self.other.onward(other)
        return [row for row in zip(onward, onward_there, self.known[method]) if row[2][1] is not None]


def answers_by(call, told, values, new):
    """The answers to a call with a word, each with the values that are held behind it.

    What is told are the word and which things it tells or raises; the values have holes where
    these are put. Answers that leave the same values behind them are told once; `new` is the
    number of a new thing.
    """
    word, kind = told
    if kind == "":
        return [((word,), values)]
    things = _tellable(kind, call, values, new)
    if HOLE not in values:
        return [((word, things[0]), values)]
    return [((word, thing), tuple([thing if value == HOLE else value for value in values])) for thing in things]


def _tellable(kind, call, values, new):
    """The things that may be told or raised."""
    match kind:
        case "own":
            return [call[1]]
        case "truth":
            return ["True", "False"]
        case _:
            things = {new: True, **{value: True for value in values if not isinstance(value, str)}}
            return [*things, "True", "False"] if kind == "all" else list(things)
