"""Pieces and codes that are walked on books."""

from pieceasks.errors import InvalidBook
from pieceasks.methods import is_answer
from pieceasks.things import wrong_begin


def check_begin(shape, begin):
    """Makes sure that a begin has what is handed to a piece or code of this shape."""
    params, kept = shape
    at = wrong_begin(begin[:params], kept is not None)
    if at is not None:
        raise InvalidBook("begin", at)
    if len(begin) < params:
        raise InvalidBook("begin", len(begin))
    if len(begin) > params:
        raise InvalidBook("begin", params)


def steps(machine, shape, book):
    """What is reached at the moments of a book, up to the end or the moment behind.

    These are pairs of a state, with a call at all but the last one, and what was looked up.
    """
    check_begin(shape, book.begin)
    state = machine.start(book.begin)
    found = []
    for at, (lacking, answer) in enumerate(book.moments):
        state, looks = machine.reach_looking(state, lacking)
        found.append((state, looks))
        if not machine.asks(state):
            return found
        if not is_answer(machine.coming(state)[0], answer, state[2]):
            raise InvalidBook("answer", at)
        state = machine.answered(state, answer)
    found.append(machine.reach_looking(state, book.lacking))
    return found


def walked(machine, shape, book):
    """The calls that were answered, with their answers, and what comes behind."""
    states = [state for state, _ in steps(machine, shape, book)]
    calls = [machine.coming(state) for state in states]
    answers = [answer for _, answer in book.moments]
    coming = calls.pop()
    if machine.asks(states[-1]):
        coming = ("asks", coming)
    return tuple(zip(calls, answers)), coming
