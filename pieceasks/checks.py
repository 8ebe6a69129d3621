"""Which rows make a code."""

from pieceasks.flows import goal_pairs, mask_of, nodes_of, read_slots
from pieceasks.methods import ANSWERS, counts_of
from pieceasks.things import CONSTANTS, ERRORS, is_number
from pieceasks.words import right_name

# The form of a row is a letter for each of its items behind the first word: M a method, A an
# operand, S a slot, R a row to go on with.
ROWS = {
    "has": "MARR", "same": "AARR", "kind": "ARR", "true": "ARR", "set": "SRR",
    "move": "SA", "unset": "S", "jump": "R",
}


def _is_slot(value):
    """Whether any value is a slot."""
    return is_number(value) and value >= 0


def _is_operand(value):
    """Whether any value is an operand."""
    return _is_slot(value) or value in CONSTANTS or value in ERRORS


def _is_word(value):
    """Whether any value is the word of an attribute with its dot."""
    return isinstance(value, str) and value.startswith(".") and right_name(value[1:])


def _is_method(value):
    """Whether any value is a method."""
    return isinstance(value, str) and value in ANSWERS


def _fits(letter, item):
    """Whether any value may stand where a form has a letter."""
    match letter:
        case "M":
            return _is_method(item)
        case "A":
            return _is_operand(item)
        case "S":
            return _is_slot(item)
        case _:
            return is_number(item)


def _is_row(row, whole):
    """Whether any value has the form of a row, in a code of a whole piece or of a part."""
    if not isinstance(row, tuple) or len(row) == 0 or not isinstance(row[0], str):
        return False
    if row[0] == "ask":
        return len(row) == 5 and _is_asking(row[1], row[2], row[3], row[4])
    if row[0] == "end":
        return len(row) == 4 and _is_ending(row[1], row[2], row[3], whole)
    if row[0] not in ROWS:
        return False
    form = ROWS[row[0]]
    return len(form) == len(row) - 1 and all([_fits(letter, item) for letter, item in zip(form, row[1:])])


def _is_asking(method, given, to, goals):
    """Whether any values are the items of an `ask`."""
    if not _is_method(method) or not isinstance(given, tuple) or not isinstance(goals, tuple):
        return False
    return _are_given(method, given) and _is_slot(to) and _are_goals(ANSWERS[method], goals)


def _are_given(method, given):
    """Whether the items of a tuple are the thing of a method and its arguments."""
    words, least, most = counts_of(method)
    operands = [*given[:1], *given[1 + words:]]
    if len(given) < 1 + words + least or len(given) > 1 + words + most:
        return False
    return all([_is_word(item) for item in given[1:1 + words]]) and all([_is_operand(item) for item in operands])


def _are_goals(words, goals):
    """Whether the items of a tuple are pairs of these words and rows."""
    if len(goals) != len(words):
        return False
    for word, pair in zip(words, goals):
        if not isinstance(pair, tuple) or len(pair) != 2 or pair[0] != word or not is_number(pair[1]):
            return False
    return True


def _is_ending(word, operand, kept, whole):
    """Whether any values are the items of an `end`."""
    if not isinstance(kept, tuple) or not all([_is_slot(slot) for slot in kept]):
        return False
    if word == "falls":
        return operand == "None" and not whole
    return word in ("returns", "raises") and _is_operand(operand)


def wrong_row(params, rows, kept):
    """What is wrong with any values as rows: a pair of a word and a row, or None."""
    if len(rows) == 0:
        return "goal", 0
    for at, row in enumerate(rows):
        if not _is_row(row, kept is None):
            return "form", at
        if any([goal < 0 or goal >= len(rows) for goal in _goals(row, at)]):
            return "goal", at
        if row[0] == "end" and len(row[3]) != (kept or 0):
            return "kept", at
    nodes = nodes_of(rows)
    bits = _known_bits(nodes)
    fates = _fates(nodes, bits, params, kept is None)
    for at, fate in enumerate(fates):
        if fate is None:
            return "astray", at
    for at, (node, fate) in enumerate(zip(nodes, fates)):
        unset, known = fate
        if mask_of(read_slots(node)) & unset:
            return "unset", at
        if node[0] == "ask" and not bits.get((node[1], node[2][0]), 0) & known:
            return "lacks", at
    return None


def _goals(row, at):
    """The rows with which the row at a place goes on."""
    if row[0] in ("move", "unset"):
        return [at + 1]
    return [goal for _, goal in goal_pairs(row)]


def _known_bits(nodes):
    """A bit for each pair of a method and a slot that is looked up."""
    bits = {}
    for node in nodes:
        # Constants and errors have no methods, so nothing is known of them.
        if node[0] == "has" and not isinstance(node[2], str):
            bits.setdefault((node[1], node[2]), 1 << len(bits))
    return bits


def _fates(nodes, bits, params, whole):
    """For each node a pair of masks, or None if it can't be come to.

    The first has the slots that may be unset there, the second the bits of the pairs of a method
    and a slot whose thing has it there for sure.
    """
    fates = [None for _ in nodes]
    fates[0] = (_open_slots(nodes, params, whole), 0)
    of_slots = _bits_of_slots(bits)
    todo = [0]
    while todo:
        at = todo.pop()
        for word, goal in goal_pairs(nodes[at]):
            unset, known = _fate_behind(nodes[at], word, fates[at], bits, of_slots)
            if fates[goal] is not None:
                unset, known = unset | fates[goal][0], known & fates[goal][1]
            if (unset, known) != fates[goal]:
                fates[goal] = (unset, known)
                todo.append(goal)
    return fates


def _open_slots(nodes, params, whole):
    """The mask of the slots that are read somewhere and may be unset at the begin."""
    found = mask_of([slot for node in nodes for slot in read_slots(node)])
    return found & ~((1 << params) - 1) if whole else found


def _bits_of_slots(bits):
    """For each slot that is looked up the bits of its pairs."""
    found = {}
    for _, slot in bits:
        found[slot] = sum([bit for (_, other), bit in bits.items() if other == slot])
    return found


def _fate_behind(node, word, fate, bits, of_slots):
    """What is so behind a node that goes on behind a word."""
    unset, known = fate
    match node[0]:
        case "set":
            here = 1 << node[1]
            return unset | here if word == "no" else unset & ~here, known
        case "has":
            gained = bits.get((node[1], node[2]), 0) if word == "yes" else 0
            return unset, known | gained
        case "ask":
            return unset & ~(1 << node[3]) if word in ("tells", "raises") else unset, 0
        case "move" | "unset":
            here = 1 << node[1]
            return unset | here if node[0] == "unset" else unset & ~here, known & ~of_slots.get(node[1], 0)
        case _:
            return unset, known
