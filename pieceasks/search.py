"""The search for a least book on which two machines part.

A state is a triple of a node of each machine and the values of the slots that are wanted there, of
the first machine and then of the second one. Things are numbered in it from 0 in the order in which
they occur, so that states that differ in the names of things alone are one.
"""

from pieceasks.books import Book
from pieceasks.stands import HOLE, matches
from pieceasks.things import CONSTANTS, ERRORS, UNSET, count_things
from pieceasks.vows import allowed_answers


def renumbered(values):
    """Values with numbers by first occurrence, and the numbers that stood for these."""
    numbers = {}
    found = [
        value if isinstance(value, str) else numbers.setdefault(value, len(numbers)) for value in values
    ]
    return tuple(found), tuple(numbers)


def begins(params, is_part):
    """All begins for so many params."""
    found = [()]
    for _ in range(params):
        found = _longer_begins(found, is_part)
    return found


def _longer_begins(shorter, is_part):
    """All begins that have one thing more than some of these."""
    beside = [UNSET, *CONSTANTS, *ERRORS] if is_part else []
    found = []
    for begin in shorter:
        things = [*list(range(count_things(begin), -1, -1)), *beside]
        found.extend([(*begin, thing) for thing in things])
    return found


class Search:
    """A search that goes through the states by the number of answers it takes to come there."""

    def __init__(self, one, other, twins, vows):
        self.one = one
        self.other = other
        self.twins = twins
        self.vows = vows
        self.allowed = {}
        self.met = {}
        self.states = []
        # For each state the place of the one before, what was lacking there, the answer, and what
        # the things are numbered there; of one at the begin None and the begin ahead of that.
        self.steps = []

    def parting(self, shape):
        """A least book on which both part, which have this shape, or None."""
        for begin in begins(shape[0], shape[1] is not None):
            self._put_begin(begin)
        at = 0
        while at < len(self.states):
            for one, other in self._leaves(self.states[at]):
                if one[1] != other[1]:
                    return self._book(at, (*one[2], *other[2]))
                if one[3] is not None:
                    self._answer(at, one, other)
            at = at + 1
        return None

    def _put_begin(self, begin):
        """Puts the state at a begin."""
        held = self.one.held_first(begin)
        held_there = self.other.held_first(begin)
        self._put(held, held_there, (*held[1], *held_there[1]), (None, (), begin))

    def _put(self, held, held_there, values, step):
        """Puts a state, if it was not met before and both may part behind it."""
        many = len(held[1])
        if values[:many] == values[many:] and self.twins.are(held[0], held_there[0]):
            return
        known, numbers = renumbered(values)
        state = (held[0], held_there[0], known)
        if state not in self.met:
            self.met[state] = True
            self.states.append(state)
            self.steps.append((*step, numbers))

    def _leaves(self, state):
        """The pairs of what both may come to from a state at one moment."""
        one, other, values = state
        many = len(self.one.wanted_at(one))
        found = []
        matches(self.one.tree(one, values[:many]), self.other.tree(other, values[many:]), {}, found)
        return found

    def _answer(self, at, one, other):
        """Puts the states behind all answers to a call that both make."""
        call = one[1]
        if call[0] not in self.allowed:
            self.allowed[call[0]] = allowed_answers(self.vows, call[0])
        lacking = (*one[2], *other[2])
        for held, held_there, (word, kind) in zip(one[3], other[3], self.allowed[call[0]]):
            if kind is None or (held[1] == held_there[1] and self.twins.are(held[0], held_there[0])):
                continue
            values = (*held[1], *held_there[1])
            if kind == "":
                self._put(held, held_there, values, (at, lacking, (word,)))
                continue
            things = self._tellable(at, kind, call, values)
            for thing in things if HOLE in values else things[:1]:
                filled = tuple([thing if value == HOLE else value for value in values])
                self._put(held, held_there, filled, (at, lacking, (word, thing)))

    def _tellable(self, at, kind, call, values):
        """The things that may be told or raised; a new one is numbered like those of the state."""
        new = len(self.steps[at][3])
        match kind:
            case "own":
                return [call[1]]
            case "truth":
                return ["True", "False"]
            case _:
                things = {new: True, **{value: True for value in values if not isinstance(value, str)}}
                return [*things, "True", "False"] if kind == "all" else list(things)

    def _book(self, at, lacking):
        """The book that leads to a state, at which this is lacking."""
        path = []
        while at is not None:
            path.append(self.steps[at])
            at = self.steps[at][0]
        _, _, begin, numbers = path.pop()
        things = list(numbers)
        many = count_things(begin)
        moments = []
        for _, pairs, answer, numbers in reversed(list(path)):
            things.append(many)
            moments.append((_named(pairs, things), _named_answer(answer, things)))
            if moments[-1][1][-1] == many:
                many = many + 1
            things = [things[number] for number in numbers]
        return Book(begin, tuple(moments), _named(lacking, things))


def _named(pairs, things):
    """Pairs that are lacking, by the numbers of a book."""
    return tuple([(method, things[number]) for method, number in pairs])


def _named_answer(answer, things):
    """An answer by the numbers of a book."""
    return tuple([part if isinstance(part, str) else things[part] for part in answer])
