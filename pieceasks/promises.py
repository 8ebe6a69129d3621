"""Promises about what all classes do."""

from pieceasks.errors import InvalidPromise
from pieceasks.vows import ascending_vows, keeps_answer, keeps_look, vows_of, wrong_vow
from pieceasks.walks import steps


def vows_in(value):
    """The pairs of promises, or of a tuple or list of pairs, which must be some."""
    if isinstance(value, Promises):
        return value._pairs
    return Promises(value)._pairs


def is_kept(vows, piece, book):
    """Whether a piece or code keeps to promises on a book."""
    machine = piece.machine()
    found = steps(machine, piece.shape, book)
    for _, looks in found:
        if not all([keeps_look(vows, method, there) for method, there in looks]):
            return False
    for (state, _), (_, answer) in zip(found[:-1], book.moments):
        if not keeps_answer(vows, machine.coming(state), answer):
            return False
    return True


def _is_operand(value):
    """Whether promises are joined with a value."""
    return isinstance(value, (Promises, tuple, list))


class Promises:
    """A set of promises: pairs of a word and a method."""

    def __init__(self, pairs=()):
        given = tuple(pairs)
        at = wrong_vow(given)
        if at is not None:
            raise InvalidPromise(at)
        self._pairs = ascending_vows(given)

    @classmethod
    def read(cls, text):
        """The promises of a text."""
        return cls(vows_of(text))

    def kept_by(self, piece, book):
        """Whether a piece or code keeps to these promises on a book."""
        return is_kept(self._pairs, piece, book)

    def __str__(self):
        return ", ".join([" ".join(pair) for pair in self._pairs])

    def __len__(self):
        return len(self._pairs)

    def __contains__(self, x):
        return x in self._pairs

    def __iter__(self):
        return iter(self._pairs)

    def __eq__(self, other):
        return isinstance(other, Promises) and self._pairs == other._pairs

    def __le__(self, other):
        if not isinstance(other, Promises):
            return NotImplemented
        return all([pair in other._pairs for pair in self._pairs])

    def __lt__(self, other):
        if not isinstance(other, Promises):
            return NotImplemented
        return len(self._pairs) < len(other._pairs) and all([pair in other._pairs for pair in self._pairs])

    def __ge__(self, other):
        if not isinstance(other, Promises):
            return NotImplemented
        return all([pair in self._pairs for pair in other._pairs])

    def __gt__(self, other):
        if not isinstance(other, Promises):
            return NotImplemented
        return len(self._pairs) > len(other._pairs) and all([pair in self._pairs for pair in other._pairs])

    def __or__(self, other):
        if not _is_operand(other):
            return NotImplemented
        return Promises(ascending_vows((*self._pairs, *vows_in(other))))

    def __ror__(self, other):
        if not _is_operand(other):
            return NotImplemented
        return Promises(ascending_vows((*self._pairs, *vows_in(other))))

    def __and__(self, other):
        if not _is_operand(other):
            return NotImplemented
        pairs = vows_in(other)
        return Promises([pair for pair in self._pairs if pair in pairs])

    def __rand__(self, other):
        if not _is_operand(other):
            return NotImplemented
        pairs = vows_in(other)
        return Promises([pair for pair in self._pairs if pair in pairs])

    def __sub__(self, other):
        if not _is_operand(other):
            return NotImplemented
        pairs = vows_in(other)
        return Promises([pair for pair in self._pairs if pair not in pairs])

    def __rsub__(self, other):
        if not _is_operand(other):
            return NotImplemented
        return Promises([pair for pair in vows_in(other) if pair not in self._pairs])

    # Promises never change, so these give new ones, too.

    def __ior__(self, other):
        return self | other

    def __iand__(self, other):
        return self & other

    def __isub__(self, other):
        return self - other
