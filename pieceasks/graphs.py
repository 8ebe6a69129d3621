"""The nodes of a piece while it is translated, and how they are laid as the rows of a code.

Each node has a number of its own and tells where it goes on, a `move` and an `unset` too (as
their last items). They are put from the end of the piece to its begin, so that the nodes that
others go on with are there already; only a loop is held open until its nodes are put.
"""

from pieceasks.flows import goal_pairs, settled
from pieceasks.methods import ANSWERS


class Graph:
    """The nodes that were put so far."""

    def __init__(self, slots, thrown, handed):
        self.slots = slots
        self.thrown = thrown
        self.handed = handed
        self.nodes = []
        self.throws = {}

    def put(self, *node):
        """Puts a node, and returns its number."""
        self.nodes.append(node)
        return len(self.nodes) - 1

    def lead(self, number, goal):
        """Lets a `jump` that was put lead elsewhere."""
        self.nodes[number] = ("jump", goal)

    def throw(self, operand, ways):
        """Raises the thing of an operand."""
        key = (operand, ways["raise"])
        if key not in self.throws:
            self.throws[key] = self.put("move", self.thrown, operand, ways["raise"])
        return self.throws[key]

    def decide(self, row, to, yes, no, then):
        """Puts a constant into a slot by a test, which is given without its goals."""
        right = self.put("move", to, yes, then)
        wrong = self.put("move", to, no, then)
        return self.put(*row, right, wrong)

    def ask(self, method, given, to, goals, lacks, ways):
        """Asks a method if the first thing has it; else goes on at `lacks`.

        The goals are those of the words of the answers but `raises`.
        """
        if isinstance(given[0], str):
            return lacks
        thrown = self.throw(to, ways)
        pairs = [(word, goals.get(word, thrown)) for word in ANSWERS[method]]
        asking = self.put("ask", method, given, to, tuple(pairs))
        return self.put("has", method, given[0], asking, lacks)

    def attempt(self, method, given, to, then, otherwise, ways):
        """Asks a method; goes on at `otherwise` if the thing lacks it or declines."""
        return self.ask(method, given, to, {"tells": then, "declines": otherwise}, otherwise, ways)

    def need(self, method, given, to, then, ways):
        """Asks a method that the thing must have."""
        goals = {"tells": then, "done": then}
        return self.ask(method, given, to, goals, self.throw("TypeError", ways), ways)


def _chain_goals(nodes, number, laid, order):
    """Lays a node and those that must follow it; returns the goals that may lie anywhere."""
    while number not in laid:
        laid[number] = len(order)
        order.append(nodes[number])
        goals = [settled(nodes, goal) for _, goal in goal_pairs(nodes[number])]
        if nodes[number][0] not in ("move", "unset"):
            return goals
        number = goals[0]
    order.append(("jump", number))
    return []


def _row_of(nodes, node, laid):
    """The row that a node is, whose goals are told by the places where they are laid."""
    match node[0]:
        case "end":
            return node
        case "move" | "unset":
            return node[:-1]
        case "jump":
            return ("jump", laid[settled(nodes, node[1])])
        case "ask":
            pairs = [(word, laid[settled(nodes, goal)]) for word, goal in node[4]]
            return (*node[:4], tuple(pairs))
        case _:
            yes, no = node[-2], node[-1]
            return (*node[:-2], laid[settled(nodes, yes)], laid[settled(nodes, no)])


def laid_rows(nodes, first):
    """The nodes that can be come to from the first one, as the rows of a code."""
    laid = {}
    order = []
    todo = [settled(nodes, first)]
    while todo:
        number = todo.pop()
        if number not in laid:
            todo.extend(_chain_goals(nodes, number, laid, order))
    return tuple([_row_of(nodes, node, laid) for node in order])
