"""Where the nodes of a code go on, and which slots they read, look at and change.

Nodes are rows that tell all their goals, as numbers of nodes: a `move` and an `unset` have as
their last item where they go on. Many slots together are a mask: a number in which a slot has the
bit of its own number.
"""

from pieceasks.things import UNSET


def nodes_of(rows):
    """The nodes that the rows of a code are."""
    return tuple([(*row, at + 1) if row[0] in ("move", "unset") else row for at, row in enumerate(rows)])


def goal_pairs(node):
    """With which nodes a node goes on, each behind a word.

    The word is that of the answer to an `ask`, "yes" or "no" of a test, and else empty.
    """
    match node[0]:
        case "end":
            return ()
        case "ask":
            return node[4]
        case "move" | "unset" | "jump":
            return (("", node[-1]),)
        case _:
            return (("yes", node[-2]), ("no", node[-1]))


def settled(nodes, at):
    """The node that is come to behind jumps, or a jump if there are nothing but jumps."""
    passed = []
    while nodes[at][0] == "jump" and at not in passed:
        passed.append(at)
        at = nodes[at][1]
    return at


def operands_of(node):
    """The operands that a node reads; words of attributes are among them."""
    match node[0]:
        case "has" | "move":
            return (node[2],)
        case "same":
            return (node[1], node[2])
        case "kind" | "true":
            return (node[1],)
        case "ask":
            return node[2]
        case "end":
            return (node[2],)
        case _:
            return ()


def read_slots(node):
    """The slots that a node reads."""
    return [part for part in operands_of(node) if not isinstance(part, str)]


def count_slots(nodes, many):
    """How many slots there are, of which the first so many lie open at the begin."""
    for node in nodes:
        match node[0]:
            case "move" | "unset" | "set":
                named = [node[1]]
            case "ask":
                named = [node[3]]
            case "end":
                named = node[3]
            case _:
                named = []
        for slot in named:
            if slot >= many:
                many = slot + 1
    return many


def mask_of(slots):
    """The mask of some slots."""
    mask = 0
    for slot in slots:
        mask |= 1 << slot
    return mask


def slots_in(mask):
    """The slots of a mask, ascending."""
    return tuple([slot for slot in range(mask.bit_length()) if mask >> slot & 1])


def wanted_masks(nodes, first):
    """For each node the slots that are wanted there."""
    return _spread([_needs(node) for node in nodes], first)


def needed_masks(nodes, first):
    """For each node the slots that some way from there reads, without a `set` that tells yes of them."""
    return _spread([_sure_needs(node) for node in nodes], first)


def _needs(node):
    """The mask of what a node reads or looks at, and its goals with the masks of what is lost on the way."""
    match node[0]:
        case "move":
            return 0 if isinstance(node[2], str) else 1 << node[2], ((node[3], 1 << node[1]),)
        case "set":
            return 1 << node[1], ((node[2], 0), (node[3], 0))
        case "ask":
            lost = 1 << node[3]
            goals = [(goal, lost if word in ("tells", "raises") else 0) for word, goal in node[4]]
            return mask_of(read_slots(node)), goals
        case "unset":
            return 0, ((node[2], 1 << node[1]),)
        case "end":
            return mask_of([*read_slots(node), *node[3]]), ()
        case "jump":
            return 0, ((node[1], 0),)
        case _:
            return mask_of(read_slots(node)), ((node[-2], 0), (node[-1], 0))


def _sure_needs(node):
    """The same for what must be set there: what a node reads alone, and a `set` finds what is set."""
    seen, goals = _needs(node)
    match node[0]:
        case "set":
            return 0, ((node[2], 1 << node[1]), (node[3], 0))
        case "end":
            return mask_of(read_slots(node)), ()
        case _:
            return seen, goals


def _spread(needs, first):
    """Masks to which those of the goals are added, again and again, but for what is lost on the way."""
    masks = [seen for seen, _ in needs]
    # Nodes that are come to from the last one lie behind their goals, most of others ahead of them.
    order = list(range(len(needs)))
    if first == 0:
        order = order[::-1]
    changes = True
    while changes:
        changes = False
        for at in order:
            mask = masks[at]
            for goal, lost in needs[at][1]:
                mask |= masks[goal] & ~lost
            if mask != masks[at]:
                masks[at] = mask
                changes = True
    return masks


def slots_with(many, named, values):
    """So many slots, of which the named ones have values and all others are unset."""
    slots = [UNSET] * many
    for slot, value in zip(named, values):
        slots[slot] = value
    return slots
