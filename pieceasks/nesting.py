"""Statements by their places in the bodies that lie within one another."""

from pieceasks.forms import STATEMENTS, bodies

PASS = ("pass",)


def count_rows(rows):
    """The number of statements in rows and their bodies."""
    return sum([1 + sum([count_rows(body) for body in bodies(row)]) for row in rows])


def rows_at(body, at, many):
    """The so many statements that follow one another in one body from a place on, or None."""
    start = 0
    for index, row in enumerate(body):
        if start == at:
            return body[index:index + many] if 1 <= many <= len(body) - index else None
        inner_start = start + 1
        for inner in bodies(row):
            size = count_rows(inner)
            if inner_start <= at < inner_start + size:
                return rows_at(inner, at - inner_start, many)
            inner_start = inner_start + size
        start = inner_start
    return None


def with_rows(body, at, many, rows):
    """A body in which others stand for the so many statements from a place on, which are there.

    A body that would be empty has a `pass`, if it may not be.
    """
    found = _put_in(body, at, many, rows)
    return found if len(found) > 0 else (PASS,)


def _put_in(body, at, many, rows):
    """The same, where nothing stands in the body if it would be empty."""
    start = 0
    for index, row in enumerate(body):
        if start == at:
            return (*body[:index], *rows, *body[index + many:])
        size = count_rows((row,))
        if at < start + size:
            return (*body[:index], _row_with(row, at - start - 1, many, rows), *body[index + 1:])
        start = start + size
    return body


def _row_with(row, at, many, rows):
    """A statement in whose bodies, of which the first begins at 0, others stand from a place on."""
    items = [row[0]]
    for letter, item in zip(STATEMENTS[row[0]], row[1:]):
        if letter not in ("B", "O"):
            items.append(item)
            continue
        size = count_rows(item)
        if 0 <= at < size:
            items.append(with_rows(item, at, many, rows) if letter == "B" else _put_in(item, at, many, rows))
        else:
            items.append(item)
        at = at - size
    return tuple(items)
