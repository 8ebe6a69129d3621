"""Statements whose names are exchanged for others."""

from pieceasks.forms import EXPRESSIONS, STATEMENTS, bodies, statement_names


def names_of(rows):
    """The names in statements and their bodies, in the order of the text, each as often as it occurs."""
    found = []
    for row in rows:
        found.extend(statement_names(row))
        for body in bodies(row):
            found.extend(names_of(body))
    return found


def renamed_rows(rows, names):
    """Statements in which others stand for names, by a dict that has them all."""
    return tuple([(row[0], *_renamed_items(STATEMENTS[row[0]], row[1:], names)) for row in rows])


def _renamed_items(form, items, names):
    """The items of a statement or expression of a form, renamed."""
    return [_renamed_item(letter, item, names) for letter, item in zip(form, items)]


def _renamed_item(letter, item, names):
    """What stands where a form has a letter, renamed."""
    match letter:
        case "E" | "T" | "U" | "N" | "M":
            return None if item is None else _renamed_value(item, names)
        case "F" | "P" | "Q":
            return tuple([_renamed_value(value, names) for value in item])
        case "B" | "O":
            return renamed_rows(item, names)
        case _:
            return item


def _renamed_value(value, names):
    """An expression or target, renamed."""
    if isinstance(value, str):
        return names[value]
    return (value[0], *_renamed_items(EXPRESSIONS[value[0]], value[1:], names))


def renaming_between(rows, others):
    """The one-to-one renaming by which statements become others, as a dict, or None."""
    ahead = names_of(rows)
    behind = names_of(others)
    if len(ahead) != len(behind):
        return None
    names = {name: other for name, other in zip(ahead, behind)}
    if len(set(list(names.values()))) < len(names) or renamed_rows(rows, names) != others:
        return None
    return names
