"""What a code does from a row on, whatever is looked up.

This is told by a tree: `("look", (method, thing), yes, no)` has a tree for each outcome of a
look-up, and `("leaf", coming, lacking, at, slots)` the call or end that comes then, what was
looked up and lacking, the row of the `ask` (None if it ends or goes on for ever), and the slots there.
"""

from pieceasks.flows import count_slots, slots_with, wanted_slots
from pieceasks.machines import coming_at, step, thing_of


class Looker:
    """A code whose look-ups are gone through, and the methods of which these are fixed."""

    def __init__(self, table, params, fixed):
        self.table = table
        self.wanted = wanted_slots(table)
        self.room = count_slots(table, params)
        self.fixed = fixed
        self.trees = {}

    def tree(self, at, values):
        """What is done from a row on, where the wanted slots have these values."""
        key = (at, values)
        if key not in self.trees:
            slots = slots_with(self.room, self.wanted[at], values)
            self.trees[key] = self._grown(at, slots, {}, {})
        return self.trees[key]

    def _grown(self, at, slots, looks, passed):
        """The tree from a row on, where these look-ups were made, and these rows and slots passed."""
        while self.table[at][0] not in ("ask", "end"):
            row = self.table[at]
            if row[0] == "has":
                key = (row[1], thing_of(row[2], slots))
                if isinstance(key[1], str):
                    goal = row[4]
                else:
                    if key not in looks and row[1] in self.fixed:
                        looks[key] = self.fixed[row[1]]
                    if key not in looks and row[3] != row[4]:
                        return self._parted(row, key, slots, looks, passed)
                    goal = row[3] if looks.get(key, True) else row[4]
            else:
                goal = step(row, at, slots, ())
            if goal <= at:
                mark = (goal, tuple(slots))
                if mark in passed:
                    return _leaf(("endless",), looks, None, slots)
                passed[mark] = True
            at = goal
        row = self.table[at]
        return _leaf(coming_at(row, slots), looks, at if row[0] == "ask" else None, slots)

    def _parted(self, row, key, slots, looks, passed):
        """The tree for a look-up that may turn out either way."""
        yes = self._grown(row[3], list(slots), {**looks, key: True}, {mark: True for mark in passed})
        no = self._grown(row[4], list(slots), {**looks, key: False}, {mark: True for mark in passed})
        return "look", key, yes, no


def _leaf(coming, looks, at, slots):
    """What is come to behind look-ups."""
    lacking = tuple([key for key in looks if not looks[key]])
    return "leaf", coming, lacking, at, tuple(slots)


def matches(one, other, looks, found):
    """Finds the pairs of leaves of two trees that may be come to by the same look-ups."""
    if one[0] == "look":
        _, key, yes, no = one
        looks[key] = True
        matches(yes, other, looks, found)
        looks[key] = False
        matches(no, other, looks, found)
        del looks[key]
    elif other[0] == "look":
        _, key, yes, no = other
        if looks.get(key, True):
            matches(one, yes, looks, found)
        if not looks.get(key, False):
            matches(one, no, looks, found)
    else:
        found.append((one, other))
