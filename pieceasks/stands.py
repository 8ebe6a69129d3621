"""What a code does from a node on, whatever is looked up.

This is told by a tree: `("look", (method, thing), yes, no)` has a tree for each outcome of a
look-up, and `("leaf", coming, lacking, at, slots)` the call or end that comes then, what was looked up
and lacking, the node of the `ask` (None if it ends or goes on for ever), and the slots there.
"""

from pieceasks.flows import slots_with
from pieceasks.machines import FREE_STEPS, advance, came_back, coming_at
from pieceasks.things import UNSET

HOLE = "hole"

# So many lookers are kept of one machine.
MOST_LOOKERS = 20


def looker_of(machine, fixed):
    """The looker of a machine with these fixed methods, which is kept for later."""
    key = tuple(fixed.items())
    if key not in machine.lookers:
        if len(machine.lookers) >= MOST_LOOKERS:
            machine.lookers.clear()
        machine.lookers[key] = Looker(machine, fixed)
    return machine.lookers[key]


class Looker:
    """A machine whose look-ups are gone through, and the methods of which these are fixed."""

    def __init__(self, machine, fixed):
        self.source = machine
        self.fixed = fixed
        self.trees = {}
        self.slots_at = {}

    def wanted_at(self, at):
        """The slots that are wanted at a node, ascending."""
        if at not in self.slots_at:
            self.slots_at[at] = self.source.wanted_at(at)
        return self.slots_at[at]

    def held_first(self, begin):
        """The first node, and the values of the slots that are wanted there at a begin."""
        at = self.source.first
        return at, tuple([begin[slot] if slot < len(begin) else UNSET for slot in self.wanted_at(at)])

    def tree_first(self, begin):
        """What is done from a begin on."""
        if begin not in self.trees:
            slots = [*begin, *[UNSET] * (self.source.room - len(begin))]
            self.trees[begin] = self._grown(self.source.first, slots, {}, {})
        return self.trees[begin]

    def tree(self, at, values):
        """What is done from a node on, where the wanted slots have these values."""
        key = (at, values)
        if key not in self.trees:
            slots = slots_with(self.source.room, self.wanted_at(at), values)
            self.trees[key] = self._grown(at, slots, {}, {})
        return self.trees[key]

    def _grown(self, at, slots, looks, passed):
        """The tree from a node on, where these look-ups were made, and these nodes and slots passed."""
        nodes = self.source.nodes
        steps = 0
        at = advance(nodes, at, slots, passed)
        while at is not None and nodes[at][0] == "has":
            _, method, operand, yes, no = nodes[at]
            key = (method, slots[operand])
            if key not in looks:
                if method in self.fixed:
                    looks[key] = self.fixed[method]
                elif yes != no:
                    return self._parted(nodes[at], key, slots, looks, passed)
            at = yes if looks.get(key, True) else no
            steps = steps + 1
            if steps > FREE_STEPS and came_back(at, slots, passed):
                at = None
            else:
                at = advance(nodes, at, slots, passed)
        return self._leaf(at, slots, looks)

    def _parted(self, node, key, slots, looks, passed):
        """The tree for a look-up that may turn out either way."""
        yes = self._grown(node[3], list(slots), {**looks, key: True}, {mark: True for mark in passed})
        no = self._grown(node[4], list(slots), {**looks, key: False}, {mark: True for mark in passed})
        return "look", key, yes, no

    def _leaf(self, at, slots, looks):
        """What is come to behind look-ups."""
        lacking = tuple([key for key in looks if not looks[key]])
        if at is None:
            return "leaf", ("endless",), lacking, None, ()
        node = self.source.nodes[at]
        return "leaf", coming_at(node, slots), lacking, at if node[0] == "ask" else None, tuple(slots)

    def onward(self, leaf):
        """For each first word of the answers to the call of a leaf a pair of a node and values.

        These are those of the slots that are wanted there, with a hole for what is told or raised.
        """
        node = self.source.nodes[leaf[3]]
        slots = leaf[4]
        found = []
        for word, goal in node[4]:
            to = node[3] if word in ("tells", "raises") else None
            found.append((goal, tuple([HOLE if slot == to else slots[slot] for slot in self.wanted_at(goal)])))
        return found


def matches(one, other, looks, found):
    """Finds the pairs of leaves of two trees that may be come to by the same look-ups."""
    if one[0] == "look":
        _, key, yes, no = one
        looks[key] = True
        matches(yes, other, looks, found)
        looks[key] = False
        matches(no, other, looks, found)
        del looks[key]
    elif other[0] == "look":
        _, key, yes, no = other
        if looks.get(key, True):
            matches(one, yes, looks, found)
        if not looks.get(key, False):
            matches(one, no, looks, found)
    else:
        found.append((one, other))
