"""Runs of pieces and codes, answer by answer."""

from pieceasks.errors import InvalidBook
from pieceasks.methods import is_answer
from pieceasks.walks import check_begin


class Run:
    """A piece or code that is run."""

    def __init__(self, piece, begin):
        check_begin(piece.shape, begin)
        self._machine = piece.machine()
        start = self._machine.start(begin)
        # The states behind the answers, and what was held when these were given, the begin first.
        self._states = [start]
        self._helds = [self._machine.labelled(start)]
        self._calls = []

    def ask(self, lacking=()):
        """The call that comes if these pairs are lacking at this moment, or the end."""
        return self._machine.coming(self._machine.reach(self._states[-1], lacking))

    def tell(self, answer, lacking=()):
        """Answers the call that comes if these pairs are lacking, and returns it."""
        state = self._machine.reach(self._states[-1], lacking)
        if not self._machine.asks(state):
            raise InvalidBook("over", 0)
        call = self._machine.coming(state)
        if not is_answer(call[0], answer, state[2]):
            raise InvalidBook("answer", 0)
        self._states.append(self._machine.answered(state, answer))
        self._helds.append(self._machine.labelled(state))
        self._calls.append((call, answer))
        return call

    def back(self):
        """Takes the last answer back; returns whether there was one."""
        if len(self._calls) == 0:
            return False
        self._states.pop()
        self._helds.pop()
        self._calls.pop()
        return True

    @property
    def calls(self):
        """The pairs of a call and its answer so far."""
        return tuple(self._calls)

    @property
    def held(self):
        """The things of the names or slots that were set when the last answered call was made."""
        return dict(self._helds[-1])

    def __len__(self):
        return len(self._calls)
