"""Papers: pairs of stands of two codes, which show step by step that these are alike."""

from pieceasks.comparing import check_shapes, compare
from pieceasks.errors import Unlike
from pieceasks.flows import mask_of, needed_masks
from pieceasks.moves import Moves, answers_by, begins, renumbered
from pieceasks.promises import vows_in
from pieceasks.things import CONSTANTS, ERRORS, UNSET, is_number


def paper_of(one, other, promises=()):
    """Some paper for two codes that holds under promises."""
    book = compare(one, other, promises)
    if book is not None:
        raise Unlike(book)
    moves = Moves(one.machine(), other.machine(), vows_in(promises))
    todo = _first_states(moves, one.shape)
    met = {state: True for state in todo}
    while todo:
        state = todo.pop()
        for onward in _states_behind(moves, state):
            if onward not in met:
                met[onward] = True
                todo.append(onward)
    return tuple([_written(moves, state) for state in met])


def paper_holds(one, other, promises, value):
    """Whether any value is a paper for two codes that holds under promises."""
    check_shapes(one, other)
    moves = Moves(one.machine(), other.machine(), vows_in(promises))
    if not isinstance(value, tuple):
        return False
    sides = (Side(one, moves.one), Side(other, moves.other))
    states = [_read(sides, pair) for pair in value]
    if None in states:
        return False
    met = {state: True for state in states}
    if not all([state in met for state in _first_states(moves, one.shape)]):
        return False
    for state in states:
        behind = _states_behind(moves, state)
        if behind is None or not all([onward in met for onward in behind]):
            return False
    return True


class Side:
    """What the stands of one of two codes may be."""

    def __init__(self, code, looker):
        nodes = code.machine().nodes
        self.looker = looker
        self.needed = needed_masks(nodes, 0)
        self.goals = {0: True}
        for node in nodes:
            if node[0] == "ask":
                for _, goal in node[4]:
                    self.goals[goal] = True

    def values_of(self, stand):
        """The values of the slots that are wanted at a stand, or None if any value is none."""
        if not isinstance(stand, tuple) or len(stand) != 2:
            return None
        row, slots = stand
        if not is_number(row) or row not in self.goals or not isinstance(slots, tuple):
            return None
        if not all([_is_held(pair) for pair in slots]):
            return None
        wanted = self.looker.wanted_at(row)
        there = [slot for slot, _ in slots]
        if there != [slot for slot in wanted if slot in there] or self.needed[row] & ~mask_of(there):
            return None
        things = {slot: thing for slot, thing in slots}
        return tuple([things.get(slot, UNSET) for slot in wanted])


def _is_held(pair):
    """Whether any value is a pair of a slot and a thing."""
    if not isinstance(pair, tuple) or len(pair) != 2:
        return False
    slot, thing = pair
    return is_number(slot) and slot >= 0 and (is_number(thing) or thing in CONSTANTS or thing in ERRORS)


def _read(sides, pair):
    """The state that is written as a pair of two stands, or None if any value is none."""
    if not isinstance(pair, tuple) or len(pair) != 2:
        return None
    one, other = [side.values_of(stand) for side, stand in zip(sides, pair)]
    if one is None or other is None:
        return None
    values = (*one, *other)
    return (pair[0][0], pair[1][0], values) if renumbered(values)[0] == values else None


def _written(moves, state):
    """The pair of two stands that a state is."""
    one, other, values = state
    many = len(moves.one.wanted_at(one))
    return _stand(moves.one, one, values[:many]), _stand(moves.other, other, values[many:])


def _stand(looker, at, values):
    """A row with the slots that are wanted there and set."""
    slots = looker.wanted_at(at)
    return at, tuple([(slot, thing) for slot, thing in zip(slots, values) if thing != UNSET])


def _first_states(moves, shape):
    """The states at all begins."""
    found = {}
    for begin in begins(shape):
        one, other = moves.one.held_first(begin), moves.other.held_first(begin)
        found[(one[0], other[0], renumbered((*one[1], *other[1]))[0])] = True
    return list(found)


def _states_behind(moves, state):
    """The states behind all answers to the calls that both make, or None if they part."""
    found = {}
    new = len(renumbered(state[2])[1])
    for one, other in moves.leaves(state):
        if one[1] != other[1]:
            return None
        if one[3] is None:
            continue
        for held, held_there, told in moves.behind(one, other):
            for _, values in answers_by(one[1], told, (*held[1], *held_there[1]), new):
                found[(held[0], held_there[0], renumbered(values)[0])] = True
    return list(found)
