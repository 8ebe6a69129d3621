"""Rules: statements that may stand in the place of others."""

from pieceasks.comparing import compare
from pieceasks.errors import Misfit, OtherShape
from pieceasks.nesting import rows_at, with_rows
from pieceasks.parts import wanted
from pieceasks.pieces import Piece
from pieceasks.renaming import names_of, renamed_rows, renaming_between
from pieceasks.words import LETTERS


def _is_rule(old, new):
    """Whether two pieces make a rule."""
    if old.kept is None or old.params != new.params or old.kept != new.kept:
        return False
    there = names_of(old.body)
    if not all([name in there for name in old.kept]):
        return False
    return all([name in old.params for name in (*old.names, *new.names)])


class Rule:
    """Two parts of the same params and kept names, of which the new one may be used for the old one."""

    def __init__(self, old, new):
        if not _is_rule(old, new):
            raise OtherShape()
        self._old = old
        self._new = new

    @property
    def old(self):
        return self._old

    @property
    def new(self):
        return self._new

    def parting(self, promises=()):
        """A least book that tells both parts apart, or None if the rule is right."""
        return compare(self._old, self._new, promises)

    def places(self, piece):
        """The places at which the rule may be used."""
        for at in range(len(piece)):
            if self._names_at(piece, at) is not None:
                yield at

    def used(self, piece, at):
        """The piece with the new statements for the old ones at a place."""
        names = self._names_at(piece, at)
        if names is None:
            raise Misfit("place")
        free = [letter for letter in LETTERS if letter not in piece.names]
        others = [name for name in Piece((), self._new.body).names if name not in names]
        names = {**names, **{name: letter for name, letter in zip(others, free)}}
        rows = renamed_rows(self._new.body, names)
        return Piece(piece.params, with_rows(piece.body, at, len(self._old.body), rows), piece.kept)

    def _names_at(self, piece, at):
        """By which names of a piece the old statements stand at a place, or None if they do not."""
        many = len(self._old.body)
        rows = rows_at(piece.body, at, many)
        if rows is None:
            return None
        names = renaming_between(self._old.body, rows)
        if names is None:
            return None
        behind = wanted(piece, at, many)
        if any([names[name] in behind for name in names if name not in self._old.kept]):
            return None
        return names

    def __invert__(self):
        return Rule(self._new, self._old)

    def __eq__(self, other):
        return isinstance(other, Rule) and self._old == other._old and self._new == other._new
