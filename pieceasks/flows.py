"""Where the rows of a code go on, and which slots they read, look at and change."""

from pieceasks.things import UNSET

NO_SLOT = -1


def ways(row, at):
    """With which rows the row at a place goes on, each behind a word.

    The word is that of the answer to an `ask`, "yes" or "no" of a test, and else empty.
    """
    match row[0]:
        case "end":
            return ()
        case "ask":
            return row[4]
        case "move" | "unset":
            return (("", at + 1),)
        case "jump":
            return (("", row[1]),)
        case _:
            return (("yes", row[-2]), ("no", row[-1]))


def operands_of(row):
    """The operands that a row reads; words of attributes are among them."""
    match row[0]:
        case "has" | "move":
            return (row[2],)
        case "same":
            return (row[1], row[2])
        case "kind" | "true":
            return (row[1],)
        case "ask":
            return row[2]
        case "end":
            return (row[2],)
        case _:
            return ()


def read_slots(row):
    """The slots that a row reads."""
    return [part for part in operands_of(row) if not isinstance(part, str)]


def seen_slots(row):
    """The slots that a row reads or looks at."""
    found = read_slots(row)
    match row[0]:
        case "set":
            return [row[1]]
        case "end":
            return [*found, *row[3]]
        case _:
            return found


def changed_slot(row, word):
    """The slot that a row changes when it goes on behind a word."""
    match row[0]:
        case "move" | "unset":
            return row[1]
        case "ask":
            return row[3] if word in ("tells", "raises") else NO_SLOT
        case _:
            return NO_SLOT


def count_slots(rows, many):
    """How many slots there are, of which the first so many lie open at the begin."""
    for row in rows:
        named = seen_slots(row)
        for word, _ in ways(row, 0):
            named.append(changed_slot(row, word))
        for slot in named:
            if slot >= many:
                many = slot + 1
    return many


def wanted_slots(rows):
    """For each row the slots that are wanted there, ascending."""
    wanted = [{} for _ in rows]
    todo = list(range(len(rows)))
    before = [[] for _ in rows]
    for at, row in enumerate(rows):
        for _, goal in ways(row, at):
            before[goal].append(at)
    while todo:
        at = todo.pop()
        found = _wanted_at(rows[at], at, wanted)
        if len(found) > len(wanted[at]):
            wanted[at] = found
            todo.extend(before[at])
    return [tuple(sorted([int(slot) for slot in found])) for found in wanted]


def _wanted_at(row, at, wanted):
    """The slots that are wanted at a row, as far as those of the rows behind it are known."""
    found = {slot: True for slot in seen_slots(row)}
    for word, goal in ways(row, at):
        lost = changed_slot(row, word)
        for slot in wanted[goal]:
            if slot != lost:
                found[slot] = True
    return found


def slots_with(many, named, values):
    """So many slots, of which the named ones have values and all others are unset."""
    slots = [UNSET] * many
    for slot, value in zip(named, values):
        slots[slot] = value
    return slots
