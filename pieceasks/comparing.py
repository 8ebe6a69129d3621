"""Whether two pieces or codes are alike."""

from pieceasks.errors import InvalidBook, OtherShape
from pieceasks.methods import is_answer
from pieceasks.pieces import Piece
from pieceasks.promises import Promises
from pieceasks.search import Search
from pieceasks.walks import check_begin


def _tables(one, other):
    """The rows of both; pieces with the same params get one slot for a name of both."""
    if isinstance(one, Piece) and isinstance(other, Piece) and one.params == other.params:
        return one.rows_beside(other.names), other.rows_beside(one.names)
    return one.machine().table, other.machine().table


def _check_shapes(one, other):
    """Makes sure that both have one shape."""
    if one.shape != other.shape:
        raise OtherShape()


def compare(one, other, promises=()):
    """None if both are alike under promises, else a least book that tells them apart."""
    _check_shapes(one, other)
    vows = tuple(Promises(tuple(promises)))
    first, second = _tables(one, other)
    return Search(first, second, one.shape, vows).parting()


def is_alike(one, other, promises=()):
    """Whether both are alike under promises."""
    return compare(one, other, promises) is None


def parts_on(one, other, book):
    """Whether both part on a book."""
    _check_shapes(one, other)
    check_begin(one.shape, book.begin)
    machines = [one.machine(), other.machine()]
    states = [machine.start(book.begin) for machine in machines]
    for at in range(len(book) + 1):
        lacking = book.moments[at][0] if at < len(book) else book.lacking
        states = [machine.reach(state, lacking) for machine, state in zip(machines, states)]
        coming, other_coming = [machine.coming(state) for machine, state in zip(machines, states)]
        if coming != other_coming:
            return True
        if at == len(book) or not machines[0].asks(states[0]):
            return False
        answer = book.moments[at][1]
        if not is_answer(coming[0], answer, states[0][2]):
            raise InvalidBook("answer", at)
        states = [machine.answered(state, answer) for machine, state in zip(machines, states)]
    return False
