"""The search for a least book on which two codes part.

A state is a triple of a row of each code and the values of the slots that are wanted there, of
the first code and then of the second one. Things are numbered in it from 0 in the order in which
they occur, so that states that differ in the names of things alone are one.
"""

from pieceasks.books import Book
from pieceasks.methods import ANSWERS
from pieceasks.stands import Looker, matches
from pieceasks.things import CONSTANTS, ERRORS, UNSET, count_things
from pieceasks.twins import twin_classes
from pieceasks.vows import allowed_answers, fixed_looks

HOLE = "hole"


def renumbered(values):
    """Values with numbers by first occurrence, and the numbers that stood for these."""
    numbers = {}
    found = [
        value if isinstance(value, str) else numbers.setdefault(value, len(numbers)) for value in values
    ]
    return tuple(found), tuple(numbers)


def begins(params, is_part):
    """All begins for so many params."""
    found = [()]
    for _ in range(params):
        found = _longer_begins(found, is_part)
    return found


def _longer_begins(shorter, is_part):
    """All begins that have one thing more than some of these."""
    beside = [UNSET, *CONSTANTS, *ERRORS] if is_part else []
    found = []
    for begin in shorter:
        things = [*list(range(count_things(begin), -1, -1)), *beside]
        found.extend([(*begin, thing) for thing in things])
    return found


class Search:
    """A search that goes through the states by the number of answers it takes to come there."""

    def __init__(self, one, other, shape, vows):
        self._shape = shape
        fixed = fixed_looks(vows)
        self.sides = (Looker(one, shape[0], fixed), Looker(other, shape[0], fixed))
        self.twins = twin_classes(one, other)
        self.allowed = {method: allowed_answers(vows, method) for method in ANSWERS}
        self.places = {}
        self.states = []
        # For each state the place of the one before, what was lacking there, the answer, and what
        # the things are numbered there; of one at the begin None and the begin ahead of that.
        self.steps = []

    def parting(self):
        """A least book on which both part, or None."""
        for begin in begins(self._shape[0], self._shape[1] is not None):
            self._put_begin(begin)
        at = 0
        while at < len(self.states):
            for one, other in self._leaves(self.states[at]):
                if one[1] != other[1]:
                    return self._book(at, (*one[2], *other[2]))
                if one[3] is not None:
                    self._answer(at, one, other)
            at += 1
        return None

    def _put_begin(self, begin):
        """Puts the state at a begin."""
        values = []
        for side in self.sides:
            values.extend([begin[slot] if slot < len(begin) else UNSET for slot in side.wanted[0]])
        self._put(0, 0, values, (None, (), begin))

    def _put(self, one, other, values, step):
        """Puts a state, if it was not met before."""
        known, numbers = renumbered(values)
        state = (one, other, known)
        if state not in self.places:
            self.places[state] = len(self.states)
            self.states.append(state)
            self.steps.append((*step, numbers))

    def _leaves(self, state):
        """The pairs of what both may come to from a state at one moment."""
        one, other, values = state
        first, second = self.sides
        many = len(first.wanted[one])
        found = []
        matches(first.tree(one, values[:many]), second.tree(other, values[many:]), {}, found)
        return found

    def _answer(self, at, one, other):
        """Puts the states behind all answers to a call that both make."""
        call = one[1]
        first, second = [side.table[leaf[3]] for side, leaf in zip(self.sides, (one, other))]
        lacking = (*one[2], *other[2])
        for (word, goal), (_, goal_there), kind in zip(first[4], second[4], self.allowed[call[0]]):
            if kind is None:
                continue
            thrown = kind != ""
            values = self._held(0, one, goal, first[3] if thrown else None)
            values_there = self._held(1, other, goal_there, second[3] if thrown else None)
            if self.twins[0][goal] == self.twins[1][goal_there] and values == values_there:
                continue
            self._answer_by(at, lacking, (word, kind, call), (goal, goal_there), [*values, *values_there])

    def _held(self, side, leaf, goal, to):
        """The values of the slots that are wanted at a goal, with a hole at the slot `to`."""
        slots = leaf[4]
        return [HOLE if slot == to else slots[slot] for slot in self.sides[side].wanted[goal]]

    def _answer_by(self, at, lacking, told, goals, values):
        """Puts the states behind all answers with one word, which may fill holes in values."""
        word, kind, call = told
        one, other = goals
        if kind == "":
            self._put(one, other, values, (at, lacking, (word,)))
            return
        things = self._tellable(at, kind, call, values)
        for thing in things if HOLE in values else things[:1]:
            filled = [thing if value == HOLE else value for value in values]
            self._put(one, other, filled, (at, lacking, (word, thing)))

    def _tellable(self, at, kind, call, values):
        """The things that may be told or raised; a new one is numbered like those of the state."""
        new = len(self.steps[at][3])
        match kind:
            case "own":
                return [call[1]]
            case "truth":
                return ["True", "False"]
            case _:
                things = {new: True, **{value: True for value in values if not isinstance(value, str)}}
                return [*things, "True", "False"] if kind == "all" else list(things)

    def _book(self, at, lacking):
        """The book that leads to a state, at which this is lacking."""
        path = []
        while at is not None:
            path.append(self.steps[at])
            at = self.steps[at][0]
        _, _, begin, numbers = path.pop()
        things = list(numbers)
        many = count_things(begin)
        moments = []
        for _, pairs, answer, numbers in reversed(list(path)):
            things.append(many)
            moments.append((_named(pairs, things), _named_answer(answer, things)))
            if moments[-1][1][-1] == many:
                many = many + 1
            things = [things[number] for number in numbers]
        return Book(begin, tuple(moments), _named(lacking, things))


def _named(pairs, things):
    """Pairs that are lacking, by the numbers of a book."""
    return tuple([(method, things[number]) for method, number in pairs])


def _named_answer(answer, things):
    """An answer by the numbers of a book."""
    return tuple([part if isinstance(part, str) else things[part] for part in answer])
