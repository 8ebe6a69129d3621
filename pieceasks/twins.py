"""Rows of two codes that do the same from there on, slot by slot."""

from pieceasks.flows import ways


def _settled(rows, at):
    """The row that is come to behind jumps, or a jump if there are nothing but jumps."""
    passed = []
    while rows[at][0] == "jump" and at not in passed:
        passed.append(at)
        at = rows[at][1]
    return at


def _own(row):
    """A row without its goals."""
    match row[0]:
        case "ask":
            return row[:4]
        case "move" | "unset" | "end":
            return row
        case "jump":
            return row[:1]
        case _:
            return row[:-2]


def twin_classes(one, other):
    """Two lists of numbers, which are equal only for rows that do the same from there on."""
    rows = []
    for table in (one, other):
        start = len(rows)
        for at, row in enumerate(table):
            goals = [start + _settled(table, goal) for _, goal in ways(row, at)]
            rows.append((_own(row), goals))
    classes = _numbered([own for own, _ in rows])
    many = 0
    while many < len(set(classes)):
        many = len(set(classes))
        classes = _numbered([
            (classes[at], tuple([classes[goal] for goal in goals])) for at, (_, goals) in enumerate(rows)
        ])
    return classes[:len(one)], classes[len(one):]


def _numbered(values):
    """A number for each value, equal ones for equal values."""
    numbers = {}
    for value in values:
        if value not in numbers:
            numbers[value] = len(numbers)
    return [numbers[value] for value in values]
