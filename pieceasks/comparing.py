"""Whether two pieces or codes are alike."""

from pieceasks.errors import InvalidBook, OtherShape
from pieceasks.methods import is_answer
from pieceasks.pieces import Piece
from pieceasks.promises import is_kept, vows_in
from pieceasks.search import Search
from pieceasks.walks import check_begin

# So many results are kept of one piece.
MOST_RESULTS = 200


def _machines(one, other):
    """The machines of both; pieces with the same params get one slot for a name of both."""
    if isinstance(one, Piece) and isinstance(other, Piece) and one.params == other.params:
        return one.machine_beside(other.names), other.machine_beside(one.names)
    return one.machine(), other.machine()


def check_shapes(one, other):
    """Makes sure that both have one shape."""
    if one.shape != other.shape:
        raise OtherShape()


def compare(one, other, promises=()):
    """None if both are alike under promises, else a least book that tells them apart."""
    check_shapes(one, other)
    vows = vows_in(promises)
    if one.mark() == other.mark():
        return None
    results = one.machine().results
    key = (other.mark(), vows)
    if key not in results:
        found = _found_before(one, other, vows)
        if len(results) >= MOST_RESULTS:
            results.clear()
        results[key] = found[0] if len(found) > 0 else _parting(one, other, vows)
    return results[key]


def _found_before(one, other, vows):
    """What tells both apart by what was found out before, or does not, as the item of a list.

    It is empty if nothing is known of this.
    """
    mark, mark_there = one.mark(), other.mark()
    results, results_there = one.machine().results, other.machine().results
    # A book tells both apart either way about.
    if (mark, vows) in results_there:
        return [results_there[(mark, vows)]]
    plain = []
    if (mark_there, ()) in results:
        plain = [results[(mark_there, ())]]
    elif (mark, ()) in results_there:
        plain = [results_there[(mark, ())]]
    # What is alike stays so under promises, and no book is shorter under these.
    if plain == [] or plain == [None]:
        return plain
    return plain if all([is_kept(vows, piece, plain[0]) for piece in (one, other)]) else []


def _parting(one, other, vows):
    """A least book that tells both apart under promises, or None."""
    machine, machine_there = _machines(one, other)
    return Search(machine, machine_there, vows).parting(one.shape)


def is_alike(one, other, promises=()):
    """Whether both are alike under promises."""
    return compare(one, other, promises) is None


def parts_on(one, other, book):
    """Whether both part on a book."""
    check_shapes(one, other)
    check_begin(one.shape, book.begin)
    machines = [one.machine(), other.machine()]
    states = [machine.start(book.begin) for machine in machines]
    for at in range(len(book) + 1):
        lacking = book.moments[at][0] if at < len(book) else book.lacking
        states = [machine.reach(state, lacking) for machine, state in zip(machines, states)]
        coming, other_coming = [machine.coming(state) for machine, state in zip(machines, states)]
        if coming != other_coming:
            return True
        if at == len(book) or not machines[0].asks(states[0]):
            return False
        answer = book.moments[at][1]
        if not is_answer(coming[0], answer, states[0][2]):
            raise InvalidBook("answer", at)
        states = [machine.answered(state, answer) for machine, state in zip(machines, states)]
    return False
