"""Parts of pieces: statements that are taken out, and others that are put in their place."""

from pieceasks.comparing import compare
from pieceasks.errors import Misfit, NoPlace, Unlike
from pieceasks.forms import is_loose, spots
from pieceasks.lives import Lives
from pieceasks.nesting import PASS, rows_at, with_rows
from pieceasks.pieces import Piece
from pieceasks.promises import vows_in


def _rows_at(piece, at, many):
    """The so many statements that follow one another from a place on, which must be there."""
    rows = rows_at(piece.body, at, many)
    if rows is None:
        raise NoPlace(at)
    return rows


def _leave_loops(rows):
    """Whether statements break or continue a loop around them."""
    return any([is_loose(row, in_loop, False) for row, in_loop, _ in spots(rows, False, False)])


def _own_rows(piece, at, many):
    """The so many statements from a place on, which must leave no loop around them."""
    rows = _rows_at(piece, at, many)
    if _leave_loops(rows):
        raise Misfit("loose")
    return rows


def wanted(piece, at, many):
    """The names that are wanted behind the so many statements from a place on."""
    _rows_at(piece, at, many)
    lives = Lives(piece.names)
    kept = lives.mask(piece.kept or ())
    mask = lives.behind_rows(piece.body, at, many, kept, {"raise": kept, "return": kept})
    return tuple([name for name, bit in lives.bits.items() if mask & bit])


def part(piece, at, many):
    """The so many statements from a place on, as a part."""
    rows = _own_rows(piece, at, many)
    return _part_of(rows, Piece((), rows).names, wanted(piece, at, many))


def _part_of(rows, names, kept):
    """A part of statements with these names, of which those are kept that are wanted behind."""
    return Piece(names, rows, tuple([name for name in names if name in kept]))


def exchanged(piece, at, many, rows, promises=()):
    """The piece with other statements in their place, if these do the same."""
    old = _own_rows(piece, at, many)
    # The names are known only if the statements are right.
    new = Piece((), rows, ()).body
    whole = Piece(piece.params, with_rows(piece.body, at, many, new), piece.kept)
    book = _parting(piece, at, (old, new), vows_in(promises))
    if book is not None:
        raise Unlike(book)
    return whole


def _parting(piece, at, rows, vows):
    """A book that tells the statements from a place on and others apart, or None."""
    old, new = rows
    names = Piece((), (*old, *new)).names
    kept = wanted(piece, at, len(old))
    return compare(_part_of(old, names, kept), _part_of(new, names, kept), vows)


def idle(piece, promises=()):
    """The places of the statements that may be left out."""
    vows = vows_in(promises)
    for at in range(len(piece)):
        row = (piece[at],)
        if not _leave_loops(row) and _parting(piece, at, (row, (PASS,)), vows) is None:
            yield at
