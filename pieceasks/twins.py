"""Nodes of two machines that do the same from there on, slot by slot."""

from pieceasks.flows import goal_pairs, settled


def _own(node):
    """A node without its goals."""
    match node[0]:
        case "ask":
            return node[:4]
        case "move" | "unset":
            return node[:-1]
        case "jump":
            return node[:1]
        case "end":
            return node
        case _:
            return node[:-2]


class Twins:
    """Two machines of which it is asked, again and again, which nodes do the same."""

    def __init__(self, one, other):
        self.one = one.nodes
        self.other = other.nodes
        self.known = {}

    def are(self, at, there):
        """Whether two nodes do the same from there on, as far as this is seen by their slots."""
        pair = (at, there)
        if pair not in self.known:
            self.known[pair] = self._agree((settled(self.one, at), settled(self.other, there)))
        return self.known[pair]

    def _agree(self, first):
        """Whether the nodes of a pair are twins: all pairs that are come to are if no two nodes differ."""
        ahead = {first: None}
        todo = [first]
        while todo:
            pair = todo.pop()
            node, node_there = self.one[pair[0]], self.other[pair[1]]
            if not self.known.get(pair, True) or _own(node) != _own(node_there):
                self._part(pair, ahead)
                return False
            for (_, goal), (_, goal_there) in zip(goal_pairs(node), goal_pairs(node_there)):
                onward = (settled(self.one, goal), settled(self.other, goal_there))
                if onward not in ahead and not self.known.get(onward, False):
                    ahead[onward] = pair
                    todo.append(onward)
        for pair in ahead:
            self.known[pair] = True
        return True

    def _part(self, pair, ahead):
        """Notes that a pair are no twins, nor are those from which it was come to."""
        while pair is not None:
            self.known[pair] = False
            pair = ahead[pair]
