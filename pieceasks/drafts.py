"""Drafts: pieces that are edited, and trials, behind which they may be as they were before."""

from pieceasks.errors import NoPlace
from pieceasks.nesting import with_rows
from pieceasks.pieces import Piece


class Draft:
    """A piece that is edited; what was changed may be taken back."""

    def __init__(self, piece):
        self.present = piece
        # The pieces ahead of the changes that stand; those below the floor are not gone back to.
        self.past = ()
        self.floor = 0

    @property
    def piece(self):
        """The present piece."""
        return self.present

    def lay(self, piece):
        """Makes another piece the present one."""
        self.past = (*self.past, self.present)
        self.present = piece

    def take_out(self, at):
        """Takes the statement at a place out."""
        self._put_rows(at, ())

    def undo(self):
        """Takes back the last change that stands; returns whether there was one."""
        if len(self.past) <= self.floor:
            return False
        self.present = self.past[-1]
        self.past = self.past[:-1]
        return True

    def trial(self):
        """What is entered to try changes out."""
        return Trial(self)

    def _put_rows(self, at, rows):
        """Puts statements in the place of one."""
        here = self.present
        if at not in here:
            raise NoPlace(at)
        self.lay(Piece(here.params, with_rows(here.body, at, 1, rows), here.kept))

    def __getitem__(self, at):
        return self.present[at]

    def __setitem__(self, at, worth):
        self._put_rows(at, (worth,))

    def __iter__(self):
        raise TypeError("a draft is not iterated over")

    def __iadd__(self, other):
        self.lay(self.present + other)
        return self

    def __len__(self):
        return len(self.past)


class Trial:
    """A block within which a draft is changed: behind it the changes are gone unless they are kept."""

    def __init__(self, draft):
        self.draft = draft
        self.present = None
        self.past = ()
        self.floor = 0
        self.verdict = None

    def keep(self):
        """Lets the changes stand behind the block."""
        self.verdict = True

    def __enter__(self):
        draft = self.draft
        self.present = draft.present
        self.past = draft.past
        self.floor = draft.floor
        self.verdict = None
        draft.floor = len(draft.past)
        return self

    def __exit__(self, kind, value, trace):
        draft = self.draft
        draft.floor = self.floor
        if kind is not None or self.verdict is None:
            draft.present = self.present
            draft.past = self.past


def within(block, call):
    """Calls something within a block."""
    with block as given:
        return call(given)
