"""The forms of expressions and statements, and what lies within them.

The form of a tuple is a letter for each of its items behind the first word:
    E an expression, T a target, U a target or None, N a name, M a name or None, W a word,
    C an operator that compares, L one of those that chains take, A one of those of `+=`,
    F the arguments of a call, P a pair of targets, Q a pair of expressions,
    B a body with statements, O a body that may be empty.
"""

from pieceasks.words import right_name

LINKS = ("==", "!=", "<", "<=", ">", ">=")
COMPARISONS = ("==", "!=", "<", "<=", ">", ">=", "in", "not in", "is", "is not")
SIGNS = ("+", "-", "*")
MOST_ARGUMENTS = 2

EXPRESSIONS = {
    "None": "", "True": "", "False": "",
    "+": "EE", "-": "EE", "*": "EE", "neg": "E",
    "compare": "CEE", "chain": "LELEE",
    "not": "E", "and": "EE", "or": "EE",
    "item": "EE", "attr": "EW", "call": "EF",
    "if": "EEE", ":=": "NE",
}

STATEMENTS = {
    "set": "TE", "take": "PE", "swap": "PQ", "aug": "ATE", "del": "T", "do": "E",
    "if": "EBO", "while": "EBO", "for": "TEBO",
    "break": "", "continue": "", "pass": "",
    "with": "EUB", "except": "BMB", "finally": "BB",
    "raise": "E", "return": "E",
}


def _first_word(value):
    """The word that any value begins with, if it is a tuple that begins with a string."""
    if isinstance(value, tuple) and len(value) > 0 and isinstance(value[0], str):
        return value[0]
    return ""


def is_constant(value):
    """Whether an expression is None, True or False."""
    return value in (("None",), ("True",), ("False",))


def is_expression(value):
    """Whether any value is an expression."""
    if isinstance(value, str):
        return right_name(value)
    word = _first_word(value)
    return word in EXPRESSIONS and _all_fit(EXPRESSIONS[word], value[1:])


def is_target(value):
    """Whether any value is a target."""
    if isinstance(value, str):
        return right_name(value)
    return _first_word(value) in ("item", "attr") and is_expression(value)


def is_statement(value):
    """Whether any value has the form of a statement, whatever stands in its bodies."""
    word = _first_word(value)
    return word in STATEMENTS and _all_fit(STATEMENTS[word], value[1:])


def _all_fit(form, items):
    """Whether items have a form."""
    return len(form) == len(items) and all([_fits(letter, item) for letter, item in zip(form, items)])


def _are(letter, value, least, most):
    """Whether any value is a tuple of as many items, each of which fits a letter."""
    if not isinstance(value, tuple) or len(value) < least or len(value) > most:
        return False
    return all([_fits(letter, item) for item in value])


def _fits(letter, item):
    """Whether any value may stand where a form has a letter."""
    match letter:
        case "E":
            return is_expression(item)
        case "T":
            return is_target(item)
        case "U":
            return item is None or is_target(item)
        case "N" | "W":
            return right_name(item)
        case "M":
            return item is None or right_name(item)
        case "C":
            return item in COMPARISONS
        case "L":
            return item in LINKS
        case "A":
            return item in SIGNS
        case "F":
            return _are("E", item, 0, MOST_ARGUMENTS)
        case "P":
            return _are("T", item, 2, 2)
        case "Q":
            return _are("E", item, 2, 2)
        case "B":
            return isinstance(item, tuple) and len(item) > 0
        case _:
            return isinstance(item, tuple)


def inner_parts(form, items):
    """The expressions, targets and names in the items of a form, from the left."""
    found = []
    for letter, item in zip(form, items):
        if letter in ("F", "P", "Q"):
            found.extend(list(item))
        elif letter in ("E", "T", "U", "N", "M") and item is not None:
            found.append(item)
    return found


def expression_names(value):
    """The names that occur in an expression or target, each as often as it does."""
    if isinstance(value, str):
        return [value]
    found = []
    for part in inner_parts(EXPRESSIONS[value[0]], value[1:]):
        found.extend(expression_names(part))
    return found


def statement_names(row):
    """The names that occur in a statement outside of its bodies, each as often as it does."""
    found = []
    for part in inner_parts(STATEMENTS[row[0]], row[1:]):
        found.extend(expression_names(part))
    return found


def bodies(row):
    """The bodies of a statement, in the order of the text."""
    return [item for letter, item in zip(STATEMENTS[row[0]], row[1:]) if letter in ("B", "O")]


def spots(rows, in_loop, in_last):
    """Each statement with what lies around it, by places; nothing lies within what is none.

    The second and third items tell whether it may break or continue a loop, and whether it lies
    in the last body of a `finally`.
    """
    found = []
    for row in rows:
        found.append((row, in_loop, in_last))
        if is_statement(row):
            for at, body in enumerate(bodies(row)):
                looping, last = _around(row[0], at, in_loop, in_last)
                found.extend(spots(body, looping, last))
    return found


def _around(word, at, in_loop, in_last):
    """What lies around the statements in a body of a statement that begins with a word."""
    if word == "finally" and at == 1:
        return False, True
    if word in ("while", "for") and at == 0:
        return True, in_last
    return in_loop, in_last


def is_loose(row, in_loop, in_last):
    """Whether a statement leaves what it may not leave."""
    if row[0] in ("break", "continue"):
        return not in_loop
    return row[0] == "return" and in_last
