"""What single promises say: pairs of a word and a method."""

from pieceasks.methods import ANSWERS, DECIDING

WORDS = ("bare", "has", "calm", "takes", "itself", "truth")


def is_vow(value):
    """Whether any value is a promise."""
    if not isinstance(value, tuple) or len(value) != 2:
        return False
    word, method = value
    if not isinstance(method, str) or word not in WORDS or method not in ANSWERS:
        return False
    match word:
        case "takes":
            return "declines" in ANSWERS[method]
        case "itself":
            return "tells" in ANSWERS[method] and method != "next"
        case "truth":
            return method in DECIDING
        case _:
            return True


def are_against(one, other):
    """Whether two promises go against one another."""
    if one[1] != other[1] or one[0] == other[0]:
        return False
    return "bare" in (one[0], other[0]) or (one[0] in ("itself", "truth") and other[0] in ("itself", "truth"))


def wrong_vow(values):
    """The index of the first of any values that is no promise or goes against one ahead, or None."""
    for at, value in enumerate(values):
        if not is_vow(value) or any([are_against(one, value) for one in values[:at]]):
            return at
    return None


def ascending_vows(vows):
    """Promises in their order, each once."""
    found = {" ".join(vow): vow for vow in vows}
    return tuple([found[text] for text in sorted([str(text) for text in found])])


def vows_of(text):
    """What stands in a text between its commas: pairs, or other tuples of words."""
    if text == "":
        return ()
    return tuple([tuple(part.split(" ")) for part in text.split(", ")])


def keeps_look(vows, method, there):
    """Whether it is as promised that a thing has a method or lacks it."""
    return ("bare" if there else "has", method) not in vows


def keeps_answer(vows, call, answer):
    """Whether an answer to a call is as promised."""
    method = call[0]
    match answer[0]:
        case "raises":
            return ("calm", method) not in vows
        case "declines":
            return ("takes", method) not in vows
        case "tells":
            if ("itself", method) in vows:
                return answer[1] == call[1]
            return ("truth", method) not in vows or isinstance(answer[1], str)
        case _:
            return True


def fixed_looks(vows):
    """The methods that are always there or always lacking, with whether they are there."""
    return {method: word == "has" for word, method in vows if word in ("has", "bare")}


def allowed_answers(vows, method):
    """What the answers to a method may be: pairs of a first word and which things it tells or raises.

    These are "some" (that came before or are new), "all" (True and False, too), "truth" (True
    and False alone), "own" (that whose method it is), "" (none), or None if there is no such answer.
    """
    found = []
    for word in ANSWERS[method]:
        kind = ""
        if word == "raises":
            kind = None if ("calm", method) in vows else "some"
        elif word == "declines":
            kind = None if ("takes", method) in vows else ""
        elif word == "tells":
            kind = _told_kind(vows, method)
        found.append((word, kind))
    return tuple(found)


def _told_kind(vows, method):
    """Which things a method tells."""
    if ("itself", method) in vows:
        return "own"
    if ("truth", method) in vows:
        return "truth"
    return "all" if method in DECIDING else "some"
