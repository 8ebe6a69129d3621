"""The methods of things, and which answers their calls allow."""

from pieceasks.things import is_number

# The first words of the answers to each method, in the order of the document.
ANSWERS = {
    "add": ("declines", "raises", "tells"),
    "sub": ("declines", "raises", "tells"),
    "mul": ("declines", "raises", "tells"),
    "radd": ("declines", "raises", "tells"),
    "rsub": ("declines", "raises", "tells"),
    "rmul": ("declines", "raises", "tells"),
    "iadd": ("declines", "raises", "tells"),
    "isub": ("declines", "raises", "tells"),
    "imul": ("declines", "raises", "tells"),
    "eq": ("declines", "raises", "tells"),
    "ne": ("declines", "raises", "tells"),
    "lt": ("declines", "raises", "tells"),
    "le": ("declines", "raises", "tells"),
    "gt": ("declines", "raises", "tells"),
    "ge": ("declines", "raises", "tells"),
    "neg": ("raises", "tells"),
    "iter": ("raises", "tells"),
    "enter": ("raises", "tells"),
    "contains": ("raises", "tells"),
    "getitem": ("raises", "tells"),
    "exit": ("raises", "tells"),
    "call": ("raises", "tells"),
    "getattr": ("raises", "tells"),
    "next": ("raises", "stop", "tells"),
    "bool": ("no", "raises", "yes"),
    "len": ("empty", "raises", "some"),
    "delitem": ("done", "raises"),
    "setitem": ("done", "raises"),
    "delattr": ("done", "raises"),
    "setattr": ("done", "raises"),
}

# These may tell True or False besides things of a class of their own.
DECIDING = ("eq", "ne", "lt", "le", "gt", "ge", "contains", "exit")

# With what each method is called behind its thing: the words, then the least and the most things.
COUNTS = {
    "neg": (0, 0, 0), "iter": (0, 0, 0), "enter": (0, 0, 0), "next": (0, 0, 0), "bool": (0, 0, 0), "len": (0, 0, 0),
    "call": (0, 0, 2), "setitem": (0, 2, 2), "getattr": (1, 0, 0), "delattr": (1, 0, 0), "setattr": (1, 1, 1),
}

# The answers that are one word.
LONE_WORDS = ("declines", "stop", "no", "yes", "empty", "some", "done")


def counts_of(method):
    """How many words, and how many things at least and at most, a method is called with."""
    return COUNTS.get(method, (0, 1, 1))


def is_some_answer(answer, many):
    """Whether any value answers a call of some method, where so many things came before."""
    if not isinstance(answer, tuple) or len(answer) == 0:
        return False
    if len(answer) == 1:
        return answer[0] in LONE_WORDS
    return len(answer) == 2 and answer[0] in ("raises", "tells") and _is_handed("eq", answer[0], answer[1], many)


def is_answer(method, answer, many):
    """Whether any value answers a call of a method, where so many things came before."""
    if not isinstance(answer, tuple) or len(answer) == 0 or not isinstance(answer[0], str):
        return False
    word = answer[0]
    if word not in ANSWERS[method]:
        return False
    if word not in ("raises", "tells"):
        return len(answer) == 1
    return len(answer) == 2 and _is_handed(method, word, answer[1], many)


def _is_handed(method, word, thing, many):
    """Whether an answer with this word may tell or raise any value."""
    if is_number(thing):
        return 0 <= thing <= many
    return word == "tells" and method in DECIDING and thing in ("True", "False")
