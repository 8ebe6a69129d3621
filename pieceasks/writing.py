"""The texts of pieces, written."""

# How tightly expressions bind, from loosely to tightly.
IF_ELSE = 0
OR = 1
AND = 2
NOT = 3
COMPARISON = 4
SUM = 5
PRODUCT = 6
NEGATIVE = 7
PLACE = 8

# How tightly the first and the second operand must bind at least.
OPERANDS = {"or": (1, 2), "and": (2, 3), "+": (5, 6), "-": (5, 6), "*": (6, 7)}


def expression_text(value, least=IF_ELSE):
    """The text of an expression, in brackets if it binds more loosely than its place allows."""
    if isinstance(value, str):
        return value
    text = _bare_text(value)
    return f"({text})" if _binding(value[0]) < least else text


def _binding(word):
    """How tightly an expression binds that begins with a word."""
    if word in OPERANDS:
        return OPERANDS[word][0]
    match word:
        case "if":
            return IF_ELSE
        case "not":
            return NOT
        case "compare" | "chain":
            return COMPARISON
        case "neg":
            return NEGATIVE
        case _:
            return PLACE


def _bare_text(value):
    """The text of an expression without brackets around it."""
    word = value[0]
    if word in OPERANDS:
        first, second = OPERANDS[word]
        return f"{expression_text(value[1], first)} {word} {expression_text(value[2], second)}"
    match word:
        case "neg":
            return f"-{expression_text(value[1], NEGATIVE)}"
        case "not":
            return f"not {expression_text(value[1], NOT)}"
        case "compare" | "chain":
            return _comparison_text(value)
        case "item":
            return f"{expression_text(value[1], PLACE)}[{expression_text(value[2])}]"
        case "attr":
            return f"{expression_text(value[1], PLACE)}.{value[2]}"
        case "call":
            return f"{expression_text(value[1], PLACE)}({_row_text(value[2])})"
        case "if":
            return _choice_text(value)
        case ":=":
            return f"({value[1]} := {expression_text(value[2])})"
        case _:
            return word


def _comparison_text(value):
    """The text of a comparison or chain: its operands stand in brackets if they are such."""
    if value[0] == "compare":
        _, sign, one, other = value
        return f"{expression_text(one, SUM)} {sign} {expression_text(other, SUM)}"
    _, sign, one, link, other, last = value
    first = f"{expression_text(one, SUM)} {sign} {expression_text(other, SUM)}"
    return f"{first} {link} {expression_text(last, SUM)}"


def _choice_text(value):
    """The text of an `if`-`else`."""
    _, condition, one, other = value
    return f"{expression_text(one, OR)} if {expression_text(condition, OR)} else {expression_text(other)}"


def _row_text(values):
    """The text of expressions that follow one another."""
    return ", ".join([expression_text(value) for value in values])


def statement_lines(row):
    """The lines of a statement, as they stand at the left."""
    if row[0] in ("if", "while", "for", "with", "except", "finally"):
        return _block_lines(row)
    return [_plain_line(row)]


def _plain_line(row):
    """The line of a statement without bodies."""
    match row[0]:
        case "set":
            return f"{expression_text(row[1])} = {expression_text(row[2])}"
        case "take":
            return f"{_row_text(row[1])} = {expression_text(row[2])}"
        case "swap":
            return f"{_row_text(row[1])} = {_row_text(row[2])}"
        case "aug":
            return f"{expression_text(row[2])} {row[1]}= {expression_text(row[3])}"
        case "do":
            return expression_text(row[1])
        case "del" | "raise" | "return":
            return f"{row[0]} {expression_text(row[1])}"
        case _:
            return row[0]


def _block_lines(row):
    """The lines of a statement with bodies."""
    lines = []
    for opening, body in _sections(row):
        lines.append(opening)
        for inner in body:
            lines.extend([f" {line}" for line in statement_lines(inner)])
    return lines


def _sections(row):
    """The bodies of a statement, each with the line ahead of it."""
    match row[0]:
        case "with":
            return [(_with_line(row), row[3])]
        case "except":
            opening = "except:" if row[2] is None else f"except as {row[2]}:"
            return [("try:", row[1]), (opening, row[3])]
        case "finally":
            return [("try:", row[1]), ("finally:", row[2])]
        case "for":
            opening = f"for {expression_text(row[1])} in {expression_text(row[2])}:"
            return _with_other(opening, row[3], row[4])
        case _:
            return _with_other(f"{row[0]} {expression_text(row[1])}:", row[2], row[3])


def _with_line(row):
    """The first line of a `with`."""
    if row[2] is None:
        return f"with {expression_text(row[1])}:"
    return f"with {expression_text(row[1])} as {expression_text(row[2])}:"


def _with_other(opening, body, other):
    """A body and, if there is any, the one behind `else`, each with the line ahead of it."""
    if len(other) == 0:
        return [(opening, body)]
    return [(opening, body), ("else:", other)]


def piece_lines(params, body, kept):
    """The lines of a piece, which is whole if what is kept is None."""
    lines = [" ".join(["params", *params])]
    if kept is not None:
        lines.append(" ".join(["kept", *kept]))
    for row in body:
        lines.extend(statement_lines(row))
    return lines
