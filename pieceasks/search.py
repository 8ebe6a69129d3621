"""The search for a least book on which two machines part."""

from pieceasks.books import Book
from pieceasks.moves import Moves, answers_by, begins, renumbered
from pieceasks.things import count_things
from pieceasks.twins import Twins


class Search:
    """A search that goes through the states by the number of answers it takes to come there."""

    def __init__(self, one, other, vows):
        self.moves = Moves(one, other, vows)
        self.twins = Twins(one, other)
        self.met = {}
        self.states = []
        # For each state the place of the one before, what was lacking there, the answer, and what
        # the things are numbered there; of one at the begin None and the begin ahead of that.
        self.steps = []

    def parting(self, shape):
        """A least book on which both part, which have this shape, or None."""
        for begin in begins(shape):
            self._put_begin(begin, shape[1] is not None)
        at = 0
        while at < len(self.states):
            for one, other in self.moves.leaves(self.states[at]):
                if one[1] != other[1]:
                    return self._book(at, (*one[2], *other[2]))
                if one[3] is not None:
                    self._answer(at, one, other)
            at = at + 1
        return None

    def _put_begin(self, begin, is_part):
        """Puts the state at a begin."""
        if not is_part:
            self.states.append((None, None, begin))
            self.steps.append((None, (), begin, tuple(range(count_things(begin)))))
            return
        # As there are many begins of parts, those that differ in what is not wanted are put together.
        held = self.moves.one.held_first(begin)
        held_there = self.moves.other.held_first(begin)
        self._put(held, held_there, (*held[1], *held_there[1]), (None, (), begin))

    def _put(self, held, held_there, values, step):
        """Puts a state, if it was not met before and both may part behind it."""
        many = len(held[1])
        if values[:many] == values[many:] and self.twins.are(held[0], held_there[0]):
            return
        known, numbers = renumbered(values)
        state = (held[0], held_there[0], known)
        if state not in self.met:
            self.met[state] = True
            self.states.append(state)
            self.steps.append((*step, numbers))

    def _answer(self, at, one, other):
        """Puts the states behind all answers to a call that both make."""
        lacking = (*one[2], *other[2])
        new = len(self.steps[at][3])
        for held, held_there, told in self.moves.behind(one, other):
            if held[1] == held_there[1] and self.twins.are(held[0], held_there[0]):
                continue
            for answer, values in answers_by(one[1], told, (*held[1], *held_there[1]), new):
                self._put(held, held_there, values, (at, lacking, answer))

    def _book(self, at, lacking):
        """The book that leads to a state, at which this is lacking."""
        path = []
        while at is not None:
            path.append(self.steps[at])
            at = self.steps[at][0]
        _, _, begin, numbers = path.pop()
        things = list(numbers)
        many = count_things(begin)
        moments = []
        for _, pairs, answer, numbers in reversed(list(path)):
            things.append(many)
            moments.append((_named(pairs, things), _named_answer(answer, things)))
            if moments[-1][1][-1] == many:
                many = many + 1
            things = [things[number] for number in numbers]
        return Book(begin, tuple(moments), _named(lacking, things))


def _named(pairs, things):
    """Pairs that are lacking, by the numbers of a book."""
    return tuple([(method, things[number]) for method, number in pairs])


def _named_answer(answer, things):
    """An answer by the numbers of a book."""
    return tuple([part if isinstance(part, str) else things[part] for part in answer])
