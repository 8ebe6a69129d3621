"""A second way to look at papers, straight from [31] and [32], row by row; it shares nothing with the package."""

import itertools

CONSTANTS = ("None", "True", "False")
ERRORS = ("TypeError", "ValueError", "NameError")
DECLINING = "add sub mul radd rsub rmul iadd isub imul eq ne lt le gt ge".split()
DECIDING = "eq ne lt le gt ge contains exit".split()


class Undecided(Exception):
    def __init__(self, key):
        self.key = key


def ways(rows, at):
    """Triples of a row, the slot that is put or unset on the way there (or None), and the slot of which `set` told yes."""
    row = rows[at]
    if row[0] == "end":
        return []
    if row[0] == "ask":
        return [(goal, row[3] if word in ("tells", "raises") else None, None) for word, goal in row[4]]
    if row[0] in ("move", "unset"):
        return [(at + 1, row[1], None)]
    if row[0] == "jump":
        return [(row[1], None, None)]
    return [(row[-2], None, row[1] if row[0] == "set" else None), (row[-1], None, None)]


def operands(row):
    parts = {"has": row[2:3], "same": row[1:3], "kind": row[1:2], "true": row[1:2], "move": row[2:3], "end": row[2:3],
             "ask": row[2] if row[0] == "ask" else ()}.get(row[0], ())
    return [part for part in parts if not isinstance(part, str)]


def is_wanted(rows, at, slot, surely=False):
    """Whether a slot is wanted at a row; or `surely`: read on some way, without a `set` that tells yes of it."""
    met, todo = {at}, [at]
    while todo:
        at = todo.pop()
        row = rows[at]
        if slot in operands(row) or not surely and (row[0] == "set" and row[1] == slot or row[0] == "end" and slot in row[3]):
            return True
        for goal, lost, told in ways(rows, at):
            if slot != lost and not (surely and slot == told) and goal not in met:
                met.add(goal)
                todo.append(goal)
    return False


class Stands:
    def __init__(self, code):
        self.rows = code.rows
        self.slots = range(25)
        self.goals = {0} | {goal for row in code.rows if row[0] == "ask" for _, goal in row[4]}
        self.wanted = {at: [slot for slot in self.slots if is_wanted(self.rows, at, slot)] for at in self.goals}
        self.sure = {at: [slot for slot in self.slots if is_wanted(self.rows, at, slot, True)] for at in self.goals}

    def is_one(self, stand):
        if type(stand) is not tuple or len(stand) != 2 or type(stand[0]) is not int or stand[0] not in self.goals or type(stand[1]) is not tuple:
            return False
        at, pairs = stand
        for pair in pairs:
            if type(pair) is not tuple or len(pair) != 2 or type(pair[0]) is not int or pair[0] not in self.wanted[at]:
                return False
            if type(pair[1]) is not int and (type(pair[1]) is not str or pair[1] not in CONSTANTS + ERRORS):
                return False
        slots = [slot for slot, _ in pairs]
        return slots == sorted(set(slots)) and set(self.sure[at]) <= set(slots)

    def go(self, stand, looks):
        """The call or end that comes, the row, and the slots there, by these look-ups."""
        at, slots = stand[0], dict(stand[1])

        def thing(operand):
            return operand if isinstance(operand, str) else slots[operand]

        met = set()
        while True:
            mark = (at, tuple(sorted(slots.items(), key=str)))
            if mark in met:
                return ("endless",), at, slots
            met.add(mark)
            row = self.rows[at]
            if row[0] == "ask":
                return (row[1],) + tuple(thing(part) for part in row[2]), at, slots
            if row[0] == "end":
                return (row[1], thing(row[2]), tuple(slots.get(slot, "unset") for slot in row[3])), at, slots
            if row[0] == "move":
                slots[row[1]] = thing(row[2])
                at += 1
            elif row[0] == "unset":
                slots.pop(row[1], None)
                at += 1
            elif row[0] == "jump":
                at = row[1]
            else:
                at = row[-2] if self.holds(row, thing, slots, looks) else row[-1]

    def holds(self, row, thing, slots, looks):
        if row[0] == "has":
            key = (row[1], thing(row[2]))
            if isinstance(key[1], str):
                return False
            if key not in looks:
                raise Undecided(key)
            return looks[key]
        if row[0] == "same":
            return thing(row[1]) == thing(row[2])
        if row[0] == "kind":
            return thing(row[1]) in CONSTANTS
        if row[0] == "true":
            return thing(row[1]) not in ("None", "False")
        return row[1] in slots

    def stand(self, goal, slots):
        return goal, tuple((slot, slots[slot]) for slot in self.wanted[goal] if slot in slots)


def renumbered(pair):
    numbers = {}
    return tuple((at, tuple((slot, thing if isinstance(thing, str) else numbers.setdefault(thing, len(numbers))) for slot, thing in pairs))
                 for at, pairs in pair)


def pairs_behind(sides, pair, vows, looks):
    """All pairs that a paper must have behind one of its pairs, or None if the codes part there."""
    try:
        comings = [side.go(stand, looks) for side, stand in zip(sides, pair)]
    except Undecided as undecided:
        key = undecided.key
        found = set()
        for there in (True, False):
            if ("bare" if there else "has", key[0]) not in vows:
                more = pairs_behind(sides, pair, vows, {**looks, key: there})
                if more is None:
                    return None
                found |= more
        return found
    (one, at, slots), (other, at_there, slots_there) = comings
    if one != other:
        return None
    if one[0] in ("returns", "raises", "falls", "endless"):
        return set()
    found = set()
    rows = sides[0].rows[at], sides[1].rows[at_there]
    for (word, goal), (_, goal_there) in zip(rows[0][4], rows[1][4]):
        held = [[slots[slot] for slot in side.wanted[to] if slot in slots and slot != row[3]]
                for side, to, slots, row in zip(sides, (goal, goal_there), (slots, slots_there), rows)]
        for thing in told_things(one, word, [thing for thing in held[0] + held[1] if not isinstance(thing, str)], vows):
            stands = []
            for side, to, slots_here, row in zip(sides, (goal, goal_there), (slots, slots_there), rows):
                behind = dict(slots_here)
                if thing is not None:
                    behind[row[3]] = thing
                stands.append(side.stand(to, behind))
            found.add(renumbered(tuple(stands)))
    return found


def told_things(call, word, held, vows):
    method = call[0]
    if word not in ("tells", "raises"):
        return [] if word == "declines" and ("takes", method) in vows else [None]
    things = [call[1], *held, "new"]
    things = [1000 if thing == "new" else thing for thing in things]
    if word == "raises":
        return [] if ("calm", method) in vows else things
    if ("itself", method) in vows:
        return [call[1]]
    constants = ["True", "False"] if method in DECIDING else []
    return constants if ("truth", method) in vows else things + constants


def begins(code):
    beside = [] if code.kept is None else ["unset", *CONSTANTS, *ERRORS]
    for begin in itertools.product(*[[*range(at + 1), *beside] for at in range(code.params)]):
        numbers = [thing for thing in begin if isinstance(thing, int)]
        if all(thing <= len(set(numbers[:at])) for at, thing in enumerate(numbers)):
            yield begin


def holds(one, other, vows, value):
    """Whether any value is a paper that holds."""
    sides = Stands(one), Stands(other)
    if type(value) is not tuple:
        return False
    for pair in value:
        if type(pair) is not tuple or len(pair) != 2 or not all(side.is_one(stand) for side, stand in zip(sides, pair)):
            return False
        if renumbered(pair) != pair:
            return False
    there = set(value)
    for begin in begins(one):
        slots = {slot: thing for slot, thing in enumerate(begin) if thing != "unset"}
        if renumbered(tuple(side.stand(0, slots) for side in sides)) not in there:
            return False
    for pair in there:
        behind = pairs_behind(sides, pair, vows, {})
        if behind is None or not behind <= there:
            return False
    return True
