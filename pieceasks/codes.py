"""Codes: pieces whose look-ups, calls and tests are rows."""

from pieceasks.checks import wrong_row
from pieceasks.errors import InvalidCode
from pieceasks.flows import count_slots, nodes_of
from pieceasks.graphs import laid_rows
from pieceasks.machines import Machine
from pieceasks.walks import walked


class Code:
    """A code of a whole piece, or of a part with so many kept names."""

    def __init__(self, params, rows, kept=None):
        self._params = params
        self._rows = tuple(rows)
        self._kept = kept
        self._machine = None
        self._mark = ""
        wrong = wrong_row(params, self._rows, kept)
        if wrong is not None:
            word, row = wrong
            raise InvalidCode(word, row)

    @property
    def params(self):
        return self._params

    @property
    def rows(self):
        return self._rows

    @property
    def kept(self):
        return self._kept

    @property
    def shape(self):
        """The numbers of params and of kept names, None for the latter if it is whole."""
        return self._params, self._kept

    def __len__(self):
        return len(self._rows)

    def __eq__(self, other):
        return (
            isinstance(other, Code) and self._params == other._params
            and self._rows == other._rows and self._kept == other._kept
        )

    def __call__(self, book):
        return walked(self.machine(), self.shape, book)

    def mark(self):
        """A string that no other code of the same shape has."""
        if self._mark == "":
            self._mark = repr(self._rows)
        return self._mark

    def machine(self):
        """What goes through the code, from one call to the next."""
        if self._machine is None:
            nodes = nodes_of(self._rows)
            self._machine = Machine(nodes, 0, tuple(range(count_slots(nodes, self._params))))
        return self._machine


def compiled(piece):
    """Some code that does the same as a piece."""
    machine = piece.machine()
    if machine.code is None:
        params, kept = piece.shape
        machine.code = Code(params, laid_rows(machine.nodes, machine.first), kept)
    return machine.code
