"""How the nodes of a code are gone through, from one call to the next.

A state is a triple of a node, what lies in the slots, and how many things have come so far; it has
no node (None) if it goes on for ever without a call.
"""

from pieceasks.flows import count_slots, slots_in, wanted_masks
from pieceasks.things import CONSTANTS, FALSE, UNSET, count_things

# Whoever goes on for ever comes back again and again to the same node with the same things. That
# is looked for only behind so many steps, as most get to a call or an end by then.
FREE_STEPS = 50


def thing_of(operand, slots):
    """The thing of an operand."""
    return operand if isinstance(operand, str) else slots[operand]


def came_back(at, slots, passed):
    """Whether a node was passed before with these things; if not, it is now."""
    mark = (at, tuple(slots))
    if mark in passed:
        return True
    passed[mark] = True
    return False


def advance(nodes, at, slots, passed):
    """Goes on to the next look-up of a thing that may have methods, call or end.

    Returns its number, or None if it goes on for ever.
    """
    steps = 0
    while True:
        node = nodes[at]
        match node[0]:
            case "move":
                slots[node[1]] = thing_of(node[2], slots)
                at = node[3]
            case "set":
                at = node[3] if slots[node[1]] == UNSET else node[2]
            case "has":
                if not isinstance(thing_of(node[2], slots), str):
                    return at
                at = node[4]
            case "ask" | "end":
                return at
            case "jump":
                at = node[1]
            case "unset":
                slots[node[1]] = UNSET
                at = node[2]
            case _:
                at = node[-2] if _holds(node, slots) else node[-1]
        steps = steps + 1
        if steps > FREE_STEPS and came_back(at, slots, passed):
            return None


def _holds(node, slots):
    """Whether a test of things leads to the first of its goals."""
    thing = thing_of(node[1], slots)
    match node[0]:
        case "same":
            return thing == thing_of(node[2], slots)
        case "kind":
            return thing in CONSTANTS
        case _:
            return thing not in FALSE


def coming_at(node, slots):
    """The call or the end that a node tells, which is an `ask` or an `end`."""
    if node[0] == "ask":
        return (node[1], *[thing_of(part, slots) for part in node[2]])
    return node[1], thing_of(node[2], slots), tuple([slots[slot] for slot in node[3]])


class Machine:
    """Nodes, the first one of which is told, with labels of their first slots, which tell what is held."""

    def __init__(self, nodes, first, labels):
        self.nodes = nodes
        self.first = first
        self.labels = labels
        self.room = count_slots(nodes, len(labels))
        # What is found out once it is asked for.
        self.masks = None
        self.code = None
        self.lookers = {}
        self.results = {}

    def wanted_at(self, at):
        """The slots that are wanted at a node, ascending."""
        if self.masks is None:
            self.masks = wanted_masks(self.nodes, self.first)
        return slots_in(self.masks[at])

    def start(self, begin):
        """The state at the begin."""
        rest = [UNSET] * (self.room - len(begin))
        return self.first, (*begin, *rest), count_things(begin)

    def reach(self, state, lacking):
        """The state at the next call or end, if these pairs are lacking at this moment."""
        return self.reach_looking(state, lacking)[0]

    def reach_looking(self, state, lacking):
        """The same with what is looked up: pairs of a method and whether it was there."""
        at, before, many = state
        slots = list(before)
        passed = {}
        looks = []
        at = advance(self.nodes, at, slots, passed)
        while at is not None and self.nodes[at][0] == "has":
            _, method, operand, yes, no = self.nodes[at]
            there = (method, slots[operand]) not in lacking
            looks.append((method, there))
            at = yes if there else no
            if len(looks) > FREE_STEPS and came_back(at, slots, passed):
                at = None
            else:
                at = advance(self.nodes, at, slots, passed)
        return (at, tuple(slots), many), looks

    def asks(self, state):
        """Whether a call is made at a state that was reached."""
        return state[0] is not None and self.nodes[state[0]][0] == "ask"

    def coming(self, state):
        """The call or the end at a state that was reached."""
        at, slots, _ = state
        return ("endless",) if at is None else coming_at(self.nodes[at], slots)

    def answered(self, state, answer):
        """The state behind an answer, which is allowed, to the call at a state that was reached."""
        at, before, many = state
        node = self.nodes[at]
        slots = list(before)
        if len(answer) == 2:
            slots[node[3]] = answer[1]
            if answer[1] == many:
                many += 1
        for word, goal in node[4]:
            if word == answer[0]:
                at = goal
        return at, tuple(slots), many

    def labelled(self, state):
        """The things in the slots that have labels and are set."""
        return {label: thing for label, thing in zip(self.labels, state[1]) if thing != UNSET}
