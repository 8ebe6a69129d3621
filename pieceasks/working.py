"""How expressions are worked out, as rows of a code.

Each function puts rows and returns the number of the first one. Then they go on at `then`;
what is raised goes on at `ways["raise"]`. A value lies in the slot that is named; the slots
above it are free. Constants lie in no slot: their words are operands themselves.
"""

from pieceasks.forms import is_constant
from pieceasks.things import FALSE

SUMS = {"+": ("add", "radd"), "-": ("sub", "rsub"), "*": ("mul", "rmul")}
ORDERS = {"<": ("lt", "gt"), "<=": ("le", "ge"), ">": ("gt", "lt"), ">=": ("ge", "le")}


def operand(value, slot):
    """The operand of a value that is loaded into a slot."""
    return value[0] if is_constant(value) else slot


def operands(values, slot):
    """The operands of values that are loaded into the slots from this one on."""
    return tuple([operand(value, slot + at) for at, value in enumerate(values)])


def load(graph, value, slot, then, ways):
    """Works a value out into a slot, if it is no constant."""
    return then if is_constant(value) else put_value(graph, value, slot, then, ways)


def load_all(graph, values, slot, then, ways):
    """Works values out from the left into the slots from this one on."""
    for at, value in reversed(list(enumerate(values))):
        then = load(graph, value, slot + at, then, ways)
    return then


def put_value(graph, value, slot, then, ways):
    """Works a value out into a slot."""
    if isinstance(value, str):
        return _put_name(graph, value, slot, then, ways)
    if is_constant(value):
        return graph.put("move", slot, value[0], then)
    match value[0]:
        case "compare":
            return _put_comparison(graph, value, slot, then, ways)
        case "chain":
            return _put_chain(graph, value, slot, then, ways)
        case "not" | "and" | "or" | "if":
            return _put_logic(graph, value, slot, then, ways)
        case ":=":
            kept = graph.put("move", graph.slots[value[1]], slot, then)
            return put_value(graph, value[2], slot, kept, ways)
        case _:
            return _put_asking(graph, value, slot, then, ways)


def _put_name(graph, name, slot, then, ways):
    """The thing of a name."""
    found = graph.put("move", slot, graph.slots[name], then)
    return graph.put("set", graph.slots[name], found, graph.throw("NameError", ways))


def _put_asking(graph, value, slot, then, ways):
    """The value of an expression that asks a method of its first operand."""
    match value[0]:
        case "neg":
            values = (value[1],)
            done = graph.need("neg", operands(values, slot), slot, then, ways)
        case "item":
            values = value[1:]
            done = graph.need("getitem", operands(values, slot), slot, then, ways)
        case "attr":
            values = (value[1],)
            done = graph.need("getattr", (operand(value[1], slot), f".{value[2]}"), slot, then, ways)
        case "call":
            values = (value[1], *value[2])
            done = graph.need("call", operands(values, slot), slot, then, ways)
        case sign:
            values = value[1:]
            one, other = operands(values, slot)
            done = put_sum(graph, sign, one, other, slot, then, ways)
    return load_all(graph, values, slot, done, ways)


def put_sum(graph, sign, one, other, to, then, ways):
    """The sum, difference or product of two operands."""
    plain, turned = SUMS[sign]
    fails = graph.throw("TypeError", ways)
    back = graph.attempt(turned, (other, one), to, then, fails, ways)
    apart = graph.put("same", one, other, fails, back)
    return graph.attempt(plain, (one, other), to, then, apart, ways)


def put_truth(graph, one, yes, no, ways):
    """Goes on by the truth of an operand; its slot is lost if that raises."""
    if isinstance(one, str):
        return no if one in FALSE else yes
    plain = graph.put("true", one, yes, no)
    by_len = graph.ask("len", (one,), one, {"some": yes, "empty": no}, plain, ways)
    return graph.ask("bool", (one,), one, {"yes": yes, "no": no}, by_len, ways)


def _put_logic(graph, value, slot, then, ways):
    """The value of `not`, `and`, `or` and `if`-`else`."""
    match value[0]:
        case "not":
            yes = graph.put("move", slot, "False", then)
            no = graph.put("move", slot, "True", then)
        case "and":
            yes = put_value(graph, value[2], slot, then, ways)
            no = _kept(graph, value[1], slot, then)
        case "or":
            yes = _kept(graph, value[1], slot, then)
            no = put_value(graph, value[2], slot, then, ways)
        case _:
            yes = put_value(graph, value[2], slot, then, ways)
            no = put_value(graph, value[3], slot, then, ways)
    tested = put_truth(graph, operand(value[1], slot), yes, no, ways)
    return load(graph, value[1], slot, tested, ways)


def _kept(graph, value, slot, then):
    """Keeps a loaded value, which is the value of the whole."""
    return graph.put("move", slot, value[0], then) if is_constant(value) else then


def _put_comparison(graph, value, slot, then, ways):
    """The value of a comparison."""
    _, sign, one, other = value
    one_there, other_there = operands((one, other), slot)
    done = put_relation(graph, sign, (one_there, other_there), slot, slot + 2, then, ways)
    return load_all(graph, (one, other), slot, done, ways)


def _put_chain(graph, value, slot, then, ways):
    """The value of a chain."""
    _, sign, one, link, other, last = value
    one_there, other_there, last_there = operands((one, other, last), slot)
    done = put_relation(graph, link, (other_there, last_there), slot, slot + 3, then, ways)
    loaded = load(graph, last, slot + 2, done, ways)
    tested = put_truth(graph, slot, loaded, then, ways)
    first = put_relation(graph, sign, (one_there, other_there), slot, slot + 2, tested, ways)
    return load_all(graph, (one, other), slot, first, ways)


def put_relation(graph, sign, pair, to, free, then, ways):
    """The value of a comparison of two operands; the slots from `free` on may be used."""
    match sign:
        case "==":
            return _put_equal(graph, pair, to, then, ways)
        case "!=":
            return _put_unequal(graph, pair, to, free, then, ways)
        case "is":
            return graph.decide(("same", *pair), to, "True", "False", then)
        case "is not":
            return graph.decide(("same", *pair), to, "False", "True", then)
        case "in":
            return _put_within(graph, pair, to, free, ("True", "False"), then, ways)
        case "not in":
            return _put_within(graph, pair, to, free, ("False", "True"), then, ways)
        case _:
            plain, turned = ORDERS[sign]
            one, other = pair
            back = graph.attempt(turned, (other, one), to, then, graph.throw("TypeError", ways), ways)
            return graph.attempt(plain, (one, other), to, then, back, ways)


def _put_equal(graph, pair, to, then, ways):
    """The value of `==`."""
    one, other = pair
    plain = graph.decide(("same", one, other), to, "True", "False", then)
    back = graph.attempt("eq", (other, one), to, then, plain, ways)
    return graph.attempt("eq", (one, other), to, then, back, ways)


def _put_unequal(graph, pair, to, free, then, ways):
    """The value of `!=`."""
    one, other = pair
    plain = graph.decide(("same", one, other), to, "False", "True", then)
    right = graph.put("move", to, "True", then)
    wrong = graph.put("move", to, "False", then)
    # What `eq` tells is turned about.
    told = put_truth(graph, free, wrong, right, ways)
    back = _put_ne(graph, (other, one), (to, free), then, told, plain, ways)
    return _put_ne(graph, (one, other), (to, free), then, told, back, ways)


def _put_ne(graph, pair, slots, then, told, declined, ways):
    """The ne of the first operand with the second: at `told` lies in `free` what `eq` told."""
    to, free = slots
    by_eq = graph.attempt("eq", pair, free, told, declined, ways)
    return graph.ask("ne", pair, to, {"tells": then, "declines": declined}, by_eq, ways)


def _put_within(graph, pair, to, free, words, then, ways):
    """The value of `in` or `not in`, which is the first word if the thing is found."""
    one, other = pair
    found = graph.put("move", to, words[0], then)
    missing = graph.put("move", to, words[1], then)
    told = put_truth(graph, free, found, missing, ways)
    # Without `contains` it is walked: `free` has the walker, the next slot what it tells.
    around = graph.put("jump", found)
    tested = put_truth(graph, free + 1, found, around, ways)
    compared = _put_equal(graph, (free + 1, one), free + 1, tested, ways)
    met = graph.put("same", free + 1, one, found, compared)
    graph.lead(around, put_round(graph, free, free + 1, met, missing, ways))
    walked = graph.need("iter", (other,), free, around, ways)
    return graph.ask("contains", (other, one), free, {"tells": told}, walked, ways)


def put_round(graph, walker, to, then, stopped, ways):
    """Asks what is walked for its next thing."""
    fails = graph.throw("TypeError", ways)
    return graph.ask("next", (walker,), to, {"tells": then, "stop": stopped}, fails, ways)
