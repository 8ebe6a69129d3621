"""Shelves: pieces that are kept by names."""

from pieceasks.comparing import compare
from pieceasks.errors import UnknownName
from pieceasks.pieces import Piece
from pieceasks.promises import Promises, vows_in


class Shelf:
    """Pieces by names, and what was found out when they were compared."""

    def __init__(self):
        self.count = 0
        self._pieces = {}
        # The names, ascending; a new tuple for each change, so that who goes over it is not disturbed.
        self._order = ()
        self._found = {}

    def drop(self, name):
        """Takes a piece away."""
        if name not in self._pieces:
            raise UnknownName(name)
        del self._pieces[name]
        self._sort_names()

    def compare(self, one, other, promises=()):
        """None if two kept pieces are alike, else a least book that tells them apart."""
        first, second = self[one], self[other]
        vows = vows_in(promises)
        key = (str(first), str(second), str(Promises(vows)))
        if key not in self._found:
            self._found[key] = compare(first, second, vows)
            self.count = self.count + 1
        return self._found[key]

    def groups(self, promises=()):
        """The names, put together where their pieces are of one shape and alike."""
        vows = vows_in(promises)
        found = []
        for name in self._order:
            group = self._group_of(name, found, vows)
            if group is None:
                found.append([name])
            else:
                group.append(name)
        return tuple([tuple(group) for group in found])

    def _group_of(self, name, groups, vows):
        """The group of names to which a name belongs, or None."""
        for group in groups:
            first = group[0]
            if self[first].shape == self[name].shape and self.compare(first, name, vows) is None:
                return group
        return None

    def _sort_names(self):
        """Puts the names into their order."""
        self._order = tuple(sorted([str(name) for name in self._pieces]))

    def __setitem__(self, at, worth):
        if not Piece.is_name(at):
            raise UnknownName(at)
        self._pieces[at] = Piece.read(worth)
        self._sort_names()

    def __getitem__(self, at):
        if at not in self._pieces:
            raise UnknownName(at)
        return self._pieces[at]

    def __contains__(self, x):
        return x in self._pieces

    def __iter__(self):
        return iter(self._order)

    def __len__(self):
        return len(self._pieces)
