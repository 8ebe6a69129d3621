"""The nodes of a piece while it is translated, and how they are laid as the rows of a code.

Each node has a number of its own and tells where it goes on, a `move` and an `unset` too (as
their last items). They are put from the end of the piece to its begin, so that the nodes that
others go on with are there already; only a loop is held open until its nodes are put.
"""

from pieceasks.methods import ANSWERS


class Graph:
    """The nodes that were put so far."""

    def __init__(self, slots, thrown, handed):
        self.slots = slots
        self.thrown = thrown
        self.handed = handed
        self.nodes = []
        self.throws = {}

    def put(self, *node):
        """Puts a node, and returns its number."""
        self.nodes.append(node)
        return len(self.nodes) - 1

    def lead(self, number, goal):
        """Lets a `jump` that was put lead elsewhere."""
        self.nodes[number] = ("jump", goal)

    def throw(self, operand, ways):
        """Raises the thing of an operand."""
        key = (operand, ways["raise"])
        if key not in self.throws:
            self.throws[key] = self.put("move", self.thrown, operand, ways["raise"])
        return self.throws[key]

    def decide(self, row, to, yes, no, then):
        """Puts a constant into a slot by a test, which is given without its goals."""
        right = self.put("move", to, yes, then)
        wrong = self.put("move", to, no, then)
        return self.put(*row, right, wrong)

    def ask(self, method, given, to, goals, lacks, ways):
        """Asks a method if the first thing has it; else goes on at `lacks`.

        The goals are those of the words of the answers but `raises`.
        """
        if isinstance(given[0], str):
            return lacks
        thrown = self.throw(to, ways)
        pairs = [(word, goals.get(word, thrown)) for word in ANSWERS[method]]
        asking = self.put("ask", method, given, to, tuple(pairs))
        return self.put("has", method, given[0], asking, lacks)

    def attempt(self, method, given, to, then, otherwise, ways):
        """Asks a method; goes on at `otherwise` if the thing lacks it or declines."""
        return self.ask(method, given, to, {"tells": then, "declines": otherwise}, otherwise, ways)

    def need(self, method, given, to, then, ways):
        """Asks a method that the thing must have."""
        goals = {"tells": then, "done": then}
        return self.ask(method, given, to, goals, self.throw("TypeError", ways), ways)


def _settled(nodes, number):
    """The row that is come to behind jumps, or a jump if there are nothing but jumps."""
    passed = []
    while nodes[number][0] == "jump" and number not in passed:
        passed.append(number)
        number = nodes[number][1]
    return number


def _goals(nodes, number):
    """The numbers of the rows with which a row goes on."""
    node = nodes[number]
    match node[0]:
        case "end":
            found = []
        case "ask":
            found = [goal for _, goal in node[4]]
        case "jump" | "move" | "unset":
            found = [node[-1]]
        case _:
            found = [node[-2], node[-1]]
    return [_settled(nodes, goal) for goal in found]


def _chain_goals(nodes, number, places, order):
    """Lays a row and those that must follow it; returns the goals that may lie anywhere."""
    while number not in places:
        places[number] = len(order)
        order.append(nodes[number])
        goals = _goals(nodes, number)
        if nodes[number][0] not in ("move", "unset"):
            return goals
        number = goals[0]
    order.append(("jump", number))
    return []


def _with_places(nodes, node, places):
    """A row whose goals are told by places."""
    match node[0]:
        case "end":
            return node
        case "move" | "unset":
            return node[:-1]
        case "jump":
            return ("jump", places[_settled(nodes, node[1])])
        case "ask":
            pairs = [(word, places[_settled(nodes, goal)]) for word, goal in node[4]]
            return (*node[:4], tuple(pairs))
        case _:
            yes, no = node[-2], node[-1]
            return (*node[:-2], places[_settled(nodes, yes)], places[_settled(nodes, no)])


def laid_rows(nodes, first):
    """The rows that can be come to from the first one, as a code has them."""
    places = {}
    order = []
    todo = [_settled(nodes, first)]
    while todo:
        number = todo.pop()
        if number not in places:
            todo.extend(_chain_goals(nodes, number, places, order))
    return tuple([_with_places(nodes, node, places) for node in order])
