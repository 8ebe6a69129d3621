"""How rows of a code are gone through, from one call to the next.

A state is a triple of a row, what lies in the slots, and how many things have come so far; it has
no row (None) if it goes on for ever without a call.
"""

from pieceasks.flows import count_slots
from pieceasks.things import CONSTANTS, FALSE, UNSET, count_things


def thing_of(operand, slots):
    """The thing of an operand."""
    return operand if isinstance(operand, str) else slots[operand]


def _holds(row, slots, lacking):
    """Whether a test leads to the first of its goals."""
    match row[0]:
        case "has":
            thing = thing_of(row[2], slots)
            return not isinstance(thing, str) and (row[1], thing) not in lacking
        case "same":
            return thing_of(row[1], slots) == thing_of(row[2], slots)
        case "kind":
            return thing_of(row[1], slots) in CONSTANTS
        case "true":
            return thing_of(row[1], slots) not in FALSE
        case _:
            return slots[row[1]] != UNSET


def step(row, at, slots, lacking):
    """Does a row that neither asks nor ends, and returns the row that comes then."""
    match row[0]:
        case "move":
            slots[row[1]] = thing_of(row[2], slots)
            return at + 1
        case "unset":
            slots[row[1]] = UNSET
            return at + 1
        case "jump":
            return row[1]
        case _:
            return row[-2] if _holds(row, slots, lacking) else row[-1]


def coming_at(row, slots):
    """The call or the end that a row tells, which is an `ask` or an `end`."""
    if row[0] == "ask":
        return (row[1], *[thing_of(part, slots) for part in row[2]])
    return row[1], thing_of(row[2], slots), tuple([slots[slot] for slot in row[3]])


class Machine:
    """Rows with labels of their first slots, which tell what is held."""

    def __init__(self, table, labels):
        self.table = table
        self.labels = labels
        self.room = count_slots(table, len(labels))

    def start(self, begin):
        """The state at the begin."""
        rest = [UNSET] * (self.room - len(begin))
        return 0, (*begin, *rest), count_things(begin)

    def reach(self, state, lacking):
        """The state at the next call or end, if these pairs are lacking at this moment."""
        return self.reach_looking(state, lacking)[0]

    def reach_looking(self, state, lacking):
        """The same with what is looked up: pairs of a method and whether it was there."""
        at, before, many = state
        slots = list(before)
        passed = set()
        looks = []
        while self.table[at][0] not in ("ask", "end"):
            row = self.table[at]
            goal = step(row, at, slots, lacking)
            if row[0] == "has" and not isinstance(thing_of(row[2], slots), str):
                looks.append((row[1], (row[1], thing_of(row[2], slots)) not in lacking))
            # Whoever goes on for ever comes back again and again to the same row with the same things.
            if goal <= at:
                mark = (goal, tuple(slots))
                if mark in passed:
                    return (None, tuple(slots), many), looks
                passed.add(mark)
            at = goal
        return (at, tuple(slots), many), looks

    def asks(self, state):
        """Whether a call is made at a state that was reached."""
        return state[0] is not None and self.table[state[0]][0] == "ask"

    def coming(self, state):
        """The call or the end at a state that was reached."""
        at, slots, _ = state
        return ("endless",) if at is None else coming_at(self.table[at], slots)

    def answered(self, state, answer):
        """The state behind an answer, which is allowed, to the call at a state that was reached."""
        at, before, many = state
        row = self.table[at]
        slots = list(before)
        if len(answer) == 2:
            slots[row[3]] = answer[1]
            if answer[1] == many:
                many += 1
        for word, goal in row[4]:
            if word == answer[0]:
                at = goal
        return at, tuple(slots), many

    def labelled(self, state):
        """The things in the slots that have labels and are set."""
        return {label: thing for label, thing in zip(self.labels, state[1]) if thing != UNSET}
