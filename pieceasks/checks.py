"""Which rows make a code."""

from pieceasks.flows import changed_slot, count_slots, read_slots, ways
from pieceasks.methods import ANSWERS, counts_of
from pieceasks.things import CONSTANTS, ERRORS, is_number
from pieceasks.words import right_name

# The form of a row is a letter for each of its items behind the first word: M a method, A an
# operand, S a slot, R a row to go on with.
ROWS = {
    "has": "MARR", "same": "AARR", "kind": "ARR", "true": "ARR", "set": "SRR",
    "move": "SA", "unset": "S", "jump": "R",
}


def _is_slot(value):
    """Whether any value is a slot."""
    return is_number(value) and value >= 0


def _is_operand(value):
    """Whether any value is an operand."""
    return _is_slot(value) or value in CONSTANTS or value in ERRORS


def _is_word(value):
    """Whether any value is the word of an attribute with its dot."""
    return isinstance(value, str) and value.startswith(".") and right_name(value[1:])


def _is_method(value):
    """Whether any value is a method."""
    return isinstance(value, str) and value in ANSWERS


def _fits(letter, item):
    """Whether any value may stand where a form has a letter."""
    match letter:
        case "M":
            return _is_method(item)
        case "A":
            return _is_operand(item)
        case "S":
            return _is_slot(item)
        case _:
            return is_number(item)


def _is_row(row, whole):
    """Whether any value has the form of a row, in a code of a whole piece or of a part."""
    if not isinstance(row, tuple) or len(row) == 0 or not isinstance(row[0], str):
        return False
    if row[0] == "ask":
        return len(row) == 5 and _is_asking(row[1], row[2], row[3], row[4])
    if row[0] == "end":
        return len(row) == 4 and _is_ending(row[1], row[2], row[3], whole)
    if row[0] not in ROWS:
        return False
    form = ROWS[row[0]]
    return len(form) == len(row) - 1 and all([_fits(letter, item) for letter, item in zip(form, row[1:])])


def _is_asking(method, given, to, goals):
    """Whether any values are the items of an `ask`."""
    if not _is_method(method) or not isinstance(given, tuple) or not isinstance(goals, tuple):
        return False
    return _are_given(method, given) and _is_slot(to) and _are_goals(ANSWERS[method], goals)


def _are_given(method, given):
    """Whether the items of a tuple are the thing of a method and its arguments."""
    words, least, most = counts_of(method)
    operands = [*given[:1], *given[1 + words:]]
    if len(given) < 1 + words + least or len(given) > 1 + words + most:
        return False
    return all([_is_word(item) for item in given[1:1 + words]]) and all([_is_operand(item) for item in operands])


def _are_goals(words, goals):
    """Whether the items of a tuple are pairs of these words and rows."""
    if len(goals) != len(words):
        return False
    for word, pair in zip(words, goals):
        if not isinstance(pair, tuple) or len(pair) != 2 or pair[0] != word or not is_number(pair[1]):
            return False
    return True


def _is_ending(word, operand, kept, whole):
    """Whether any values are the items of an `end`."""
    if not isinstance(kept, tuple) or not all([_is_slot(slot) for slot in kept]):
        return False
    if word == "falls":
        return operand == "None" and not whole
    return word in ("returns", "raises") and _is_operand(operand)


def wrong_row(params, rows, kept):
    """What is wrong with any values as rows: a pair of a word and a row, or None."""
    if len(rows) == 0:
        return "goal", 0
    for at, row in enumerate(rows):
        if not _is_row(row, kept is None):
            return "form", at
        if any([goal < 0 or goal >= len(rows) for _, goal in ways(row, at)]):
            return "goal", at
        if row[0] == "end" and len(row[3]) != (kept or 0):
            return "kept", at
    fates = _fates(rows, params, kept is None)
    for at, fate in enumerate(fates):
        if fate is None:
            return "astray", at
    for at, row in enumerate(rows):
        unset, known = fates[at]
        if any([slot in unset for slot in read_slots(row)]):
            return "unset", at
        if row[0] == "ask" and (row[1], row[2][0]) not in known:
            return "lacks", at
    return None


def _fates(rows, params, whole):
    """For each row a pair of dicts, or None if it can't be come to.

    The first has the slots that may be unset there, the second the pairs of a method and a slot
    whose thing has it there for sure.
    """
    fates = [None for _ in rows]
    unset = [slot for slot in range(count_slots(rows, params)) if slot >= params or not whole]
    fates[0] = ({slot: True for slot in unset}, {})
    todo = [0]
    while todo:
        at = todo.pop()
        for word, goal in ways(rows[at], at):
            fate = _fate_behind(rows[at], word, fates[at])
            if fates[goal] is not None:
                fate = _met(fates[goal], fate)
            if fate != fates[goal]:
                fates[goal] = fate
                todo.append(goal)
    return fates


def _fate_behind(row, word, fate):
    """What is so behind a row that goes on behind a word."""
    unset = {slot: True for slot in fate[0]}
    known = {} if row[0] == "ask" else {pair: True for pair in fate[1]}
    match row[0]:
        case "set":
            _mark(unset, row[1], word == "no")
        case "has":
            # Constants and errors have no methods, so nothing is known of them.
            if word == "yes" and not isinstance(row[2], str):
                known[(row[1], row[2])] = True
        case _:
            changed = changed_slot(row, word)
            _mark(unset, changed, row[0] == "unset")
            known = {pair: True for pair in known if pair[1] != changed}
    return unset, known


def _mark(unset, slot, may):
    """Notes whether a slot may be unset."""
    if may:
        unset[slot] = True
    elif slot in unset:
        del unset[slot]


def _met(one, other):
    """What is so where two ways meet."""
    unset = {slot: True for slot in (*one[0], *other[0])}
    known = {pair: True for pair in one[1] if pair in other[1]}
    return unset, known
