"""Pieces of code."""

from pieceasks.doing import translated
from pieceasks.errors import InvalidPiece, NoPlace, OtherShape
from pieceasks.forms import is_loose, is_statement, spots, statement_names
from pieceasks.machines import Machine
from pieceasks.reading import read_piece
from pieceasks.walks import walked
from pieceasks.words import right_name, wrong_name
from pieceasks.writing import piece_lines


# So many machines with slots for names of others are kept of one piece.
MOST_MACHINES = 20


def _check_names(word, values):
    """Makes sure that values are names, each once."""
    at = wrong_name(values)
    if at is not None:
        raise InvalidPiece(word, at)


def _statements(body):
    """The statements of a body by places, each of which must be right."""
    if len(body) == 0:
        raise InvalidPiece("body", 0)
    found = spots(body, False, False)
    for at, (row, in_loop, in_last) in enumerate(found):
        if not is_statement(row):
            raise InvalidPiece("form", at)
        if is_loose(row, in_loop, in_last):
            raise InvalidPiece("loose", at)
    return tuple([spot[0] for spot in found])


def _names_in(params, kept, statements):
    """The names that occur, each once and ascending."""
    found = {name: True for name in (*params, *kept)}
    for row in statements:
        for name in statement_names(row):
            found[name] = True
    return tuple(sorted([str(name) for name in found]))


class Piece:
    """A whole piece, or a part of one, of which it is looked at what its kept names hold."""

    def __init__(self, params, body, kept=None):
        self._params = tuple(params)
        self._body = tuple(body)
        self._kept = None if kept is None else tuple(kept)
        _check_names("param", self._params)
        if kept is not None:
            _check_names("kept", self._kept)
        self._statements = _statements(self._body)
        self._names = _names_in(self._params, self._kept or (), self._statements)
        # What is found out once it is asked for: the machine, others by the names for which they have
        # slots, and the mark.
        self._machine = None
        self._beside = {}
        self._mark = ""

    @classmethod
    def read(cls, text):
        """The piece of a text."""
        params, body, kept = read_piece(text)
        return cls(params, body, kept)

    @staticmethod
    def is_name(text):
        """Whether a string is a name."""
        return right_name(text)

    @property
    def params(self):
        return self._params

    @property
    def kept(self):
        return self._kept

    @property
    def body(self):
        return self._body

    @property
    def shape(self):
        """The numbers of params and of kept names, None for the latter if it is whole."""
        return len(self._params), None if self._kept is None else len(self._kept)

    @property
    def names(self):
        """All names that occur, ascending."""
        return self._names

    def __str__(self):
        return "\n".join(piece_lines(self._params, self._body, self._kept))

    def __len__(self):
        return len(self._statements)

    def __getitem__(self, at):
        if at < 0 or at >= len(self._statements):
            raise NoPlace(at)
        return self._statements[at]

    def __contains__(self, x):
        return 0 <= x < len(self._statements)

    def __iter__(self):
        return iter(self._statements)

    def __eq__(self, other):
        return (
            isinstance(other, Piece) and self._params == other._params
            and self._kept == other._kept and self._body == other._body
        )

    def __add__(self, other):
        if isinstance(other, Piece):
            if self._params != other._params or self._kept != other._kept:
                raise OtherShape()
            return Piece(self._params, (*self._body, *other._body), self._kept)
        if isinstance(other, (tuple, list)):
            return Piece(self._params, (*self._body, *other), self._kept)
        return NotImplemented

    def __radd__(self, other):
        if isinstance(other, (tuple, list)):
            return Piece(self._params, (*other, *self._body), self._kept)
        return NotImplemented

    def __call__(self, book):
        return walked(self.machine(), self.shape, book)

    def mark(self):
        """A string that no other piece has."""
        if self._mark == "":
            self._mark = str(self)
        return self._mark

    def machine(self):
        """What goes through the piece, from one call to the next."""
        if self._machine is None:
            self._machine = self._machine_for(self._names)
        return self._machine

    def machine_beside(self, names):
        """A machine that has slots for these names, too, ascending behind the params."""
        found = {name: True for name in (*self._names, *names)}
        if len(found) == len(self._names):
            return self.machine()
        key = tuple(sorted([str(name) for name in found]))
        if key not in self._beside:
            if len(self._beside) >= MOST_MACHINES:
                self._beside.clear()
            self._beside[key] = self._machine_for(key)
        return self._beside[key]

    def _machine_for(self, names):
        """A machine that has slots for these names."""
        nodes, first, labels = translated(self._params, names, self._body, self._kept)
        return Machine(nodes, first, labels)
