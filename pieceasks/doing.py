"""What statements do, as nodes.

Each function puts nodes and returns the number of the first one; then they go on at `then`.
The ways are a dict from "raise", "return" and, in a loop, "break" and "continue" to where
these go on: what is raised lies in the slot `graph.thrown` then, what is returned in
`graph.handed`. The slots from `base` on are free.
"""

from pieceasks.forms import bodies
from pieceasks.graphs import Graph
from pieceasks.working import load, load_all, operand, operands, put_round, put_sum, put_truth

IN_PLACE = {"+": "iadd", "-": "isub", "*": "imul"}


def put_rows(graph, rows, base, then, ways):
    """Does statements that follow one another."""
    for row in reversed(list(rows)):
        then = _put_row(graph, row, base, then, ways)
    return then


def _put_row(graph, row, base, then, ways):
    """Does a statement."""
    match row[0]:
        case "if" | "while" | "for":
            return _put_branching(graph, row, base, then, ways)
        case "with":
            return _put_with(graph, row, base, then, ways)
        case "except":
            return _put_except(graph, row, base, then, ways)
        case "finally":
            return _put_finally(graph, row, base, then, ways)
        case "pass":
            return then
        case "break" | "continue":
            return ways[row[0]]
        case "return":
            moved = graph.put("move", graph.handed, operand(row[1], base), ways["return"])
            return load(graph, row[1], base, moved, ways)
        case "raise":
            one = operand(row[1], base)
            fails = graph.throw("TypeError", ways)
            tested = graph.put("kind", one, fails, graph.throw(one, ways))
            return load(graph, row[1], base, tested, ways)
        case "do":
            return load(graph, row[1], base, then, ways)
        case "del":
            return _put_deleting(graph, row[1], base, then, ways)
        case _:
            return _put_setting(graph, row, base, then, ways)


def _put_setting(graph, row, base, then, ways):
    """Does a statement that sets targets."""
    match row[0]:
        case "set":
            values = (row[2],)
            there = operands(values, base)
            done = _put_target(graph, row[1], there[0], base + 1, then, ways)
        case "swap":
            values = row[2]
            one, other = operands(values, base)
            second = _put_target(graph, row[1][1], other, base + 2, then, ways)
            done = _put_target(graph, row[1][0], one, base + 2, second, ways)
        case "take":
            return _put_taking(graph, row, base, then, ways)
        case _:
            return _put_in_place(graph, row, base, then, ways)
    return load_all(graph, values, base, done, ways)


def _put_target(graph, target, source, base, then, ways):
    """Sets a target to the thing of an operand."""
    if isinstance(target, str):
        return graph.put("move", graph.slots[target], source, then)
    given, values = _target_given(target, base)
    method = "setitem" if target[0] == "item" else "setattr"
    done = graph.need(method, (*given, source), base, then, ways)
    return load_all(graph, values, base, done, ways)


def _target_given(target, base):
    """The operands by which an item or attribute is got, and the expressions that are loaded."""
    if target[0] == "item":
        return operands(target[1:], base), target[1:]
    return (operand(target[1], base), f".{target[2]}"), (target[1],)


def _put_taking(graph, row, base, then, ways):
    """Takes two things out of a third one, and sets two targets to them."""
    _, targets, value = row
    second = _put_target(graph, targets[1], base + 2, base + 3, then, ways)
    both = _put_target(graph, targets[0], base + 1, base + 3, second, ways)
    fails = graph.throw("ValueError", ways)
    last = put_round(graph, base, base + 3, fails, both, ways)
    other = put_round(graph, base, base + 2, last, fails, ways)
    one = put_round(graph, base, base + 1, other, fails, ways)
    walked = graph.need("iter", (operand(value, base),), base, one, ways)
    return load(graph, value, base, walked, ways)


def _put_in_place(graph, row, base, then, ways):
    """Does an in-place statement."""
    _, sign, target, value = row
    if isinstance(target, str):
        stored = graph.put("move", graph.slots[target], base, then)
        there = operand(value, base + 1)
        added = _put_in_place_sum(graph, sign, base, there, stored, ways)
        return load_all(graph, (target, value), base, added, ways)
    given, values = _target_given(target, base)
    held = base + len(values)
    getting, setting = ("getitem", "setitem") if target[0] == "item" else ("getattr", "setattr")
    stored = graph.need(setting, (*given, held), held + 1, then, ways)
    added = _put_in_place_sum(graph, sign, held, operand(value, held + 1), stored, ways)
    loaded = load(graph, value, held + 1, added, ways)
    got = graph.need(getting, given, held, loaded, ways)
    return load_all(graph, values, base, got, ways)


def _put_in_place_sum(graph, sign, slot, other, then, ways):
    """The new thing of the one in a slot, in this slot, and another one."""
    plain = put_sum(graph, sign, slot, other, slot, then, ways)
    return graph.attempt(IN_PLACE[sign], (slot, other), slot, then, plain, ways)


def _put_deleting(graph, target, base, then, ways):
    """Deletes a target."""
    if isinstance(target, str):
        slot = graph.slots[target]
        return graph.put("set", slot, graph.put("unset", slot, then), graph.throw("NameError", ways))
    given, values = _target_given(target, base)
    method = "delitem" if target[0] == "item" else "delattr"
    done = graph.need(method, given, base, then, ways)
    return load_all(graph, values, base, done, ways)


def _put_branching(graph, row, base, then, ways):
    """Does an `if` or a loop."""
    if row[0] == "for":
        return _put_for(graph, row, base, then, ways)
    _, condition, body, other = row
    no = put_rows(graph, other, base, then, ways)
    if row[0] == "if":
        yes = put_rows(graph, body, base, then, ways)
        return _put_test(graph, condition, base, yes, no, ways)
    around = graph.put("jump", then)
    inner = {**ways, "break": then, "continue": around}
    yes = put_rows(graph, body, base, around, inner)
    graph.lead(around, _put_test(graph, condition, base, yes, no, ways))
    return around


def _put_test(graph, condition, base, yes, no, ways):
    """Goes on by the truth of an expression."""
    tested = put_truth(graph, operand(condition, base), yes, no, ways)
    return load(graph, condition, base, tested, ways)


def _put_for(graph, row, base, then, ways):
    """Does a `for`: its walker lies in the slot `base` as long as it goes on."""
    _, target, value, body, other = row
    around = graph.put("jump", then)
    inner = {**ways, "break": then, "continue": around}
    done = put_rows(graph, body, base + 1, around, inner)
    stored = _put_target(graph, target, base + 1, base + 2, done, ways)
    stopped = put_rows(graph, other, base, then, ways)
    graph.lead(around, put_round(graph, base, base + 1, stored, stopped, ways))
    walked = graph.need("iter", (operand(value, base),), base, around, ways)
    return load(graph, value, base, walked, ways)


def _put_with(graph, row, base, then, ways):
    """Does a `with`: its thing lies in the slot `base` until `exit` was called."""
    _, value, target, body = row
    free = base + 1
    quiet = (base, "None")
    left = graph.need("exit", quiet, free, then, ways)
    inner = {word: graph.need("exit", quiet, free, ways[word], ways) for word in ways if word != "raise"}
    told = put_truth(graph, free, then, ways["raise"], ways)
    inner["raise"] = graph.need("exit", (base, graph.thrown), free, told, ways)
    done = put_rows(graph, body, free, left, inner)
    if target is not None:
        done = _put_target(graph, target, free, base + 2, done, inner)
    entered = graph.need("enter", (operand(value, base),), free, done, ways)
    return load(graph, value, base, entered, ways)


def _put_except(graph, row, base, then, ways):
    """Does an `except`."""
    _, body, name, handler = row
    if name is None:
        caught = put_rows(graph, handler, base, then, ways)
    else:
        slot = graph.slots[name]
        leaving = {word: graph.put("unset", slot, ways[word]) for word in ways}
        handled = put_rows(graph, handler, base, graph.put("unset", slot, then), leaving)
        caught = graph.put("move", slot, graph.thrown, handled)
    return put_rows(graph, body, base, then, {**ways, "raise": caught})


def _put_finally(graph, row, base, then, ways):
    """Does a `finally`: the last body is put once for each way in which the first one is left."""
    _, body, last = row
    # What was raised lies in the slot `base` while the last body runs, which may raise itself.
    back = graph.put("move", graph.thrown, base, ways["raise"])
    again = put_rows(graph, last, base + 1, back, ways)
    inner = {"raise": graph.put("move", base, graph.thrown, again)}
    for word in _leavings(body):
        inner[word] = put_rows(graph, last, base, ways[word], ways)
    return put_rows(graph, body, base, put_rows(graph, last, base, then, ways), inner)


def _leavings(rows):
    """The words of the statements by which rows may be left, each once."""
    found = {}
    for row in rows:
        if row[0] in ("return", "break", "continue"):
            found[row[0]] = True
        for at, body in enumerate(bodies(row)):
            for word in _leavings(body):
                if word == "return" or at == 1 or row[0] not in ("while", "for"):
                    found[word] = True
    return list(found)


def translated(params, names, body, kept):
    """The nodes of a piece, the number of the first one, and the labels of its first slots.

    These are its params, then its other names.
    """
    labels = (*params, *[name for name in names if name not in params])
    slots = {name: at for at, name in enumerate(labels)}
    thrown = len(labels)
    graph = Graph(slots, thrown, thrown + 1)
    kept_slots = () if kept is None else tuple([slots[name] for name in kept])
    returned = graph.put("end", "returns", graph.handed, kept_slots)
    raised = graph.put("end", "raises", thrown, kept_slots)
    over = graph.put("end", "returns" if kept is None else "falls", "None", kept_slots)
    first = put_rows(graph, body, thrown + 2, over, {"raise": raised, "return": returned})
    return tuple(graph.nodes), first, labels
