"""The texts of books, written and read."""

from pieceasks.errors import InvalidText
from pieceasks.methods import ANSWERS, LONE_WORDS
from pieceasks.things import CONSTANTS, ERRORS, UNSET

MOST_DIGITS = 9


def book_lines(begin, moments, lacking):
    """The lines of a book."""
    lines = [" ".join(["begin", *[str(thing) for thing in begin]])]
    for pairs, answer in moments:
        words = [str(word) for word in answer]
        lines.append(" ".join([*_pair_words(pairs), *words]))
    if len(lacking) > 0:
        lines.append(" ".join(_pair_words(lacking)))
    return lines


def _pair_words(pairs):
    """The words of pairs that are lacking."""
    return [f"{method}:{number}" for method, number in pairs]


def read_book(text):
    """The begin, the moments and what is lacking behind them, of a text."""
    lines = text.split("\n")
    begin = _read_begin(lines[0].split(" "))
    moments = []
    lacking = ()
    for line in range(1, len(lines)):
        pairs, rest = _read_moment(lines[line].split(" "), line)
        if len(rest) > 0:
            moments.append((pairs, rest))
        elif line == len(lines) - 1:
            lacking = pairs
        else:
            raise InvalidText(line)
    return begin, tuple(moments), lacking


def _read_begin(words):
    """The begin that the words of the first line tell."""
    if words[0] != "begin" or not all([_is_thing(word) or word == UNSET for word in words[1:]]):
        raise InvalidText(0)
    return tuple([_thing(word) for word in words[1:]])


def _is_figure(word):
    """Whether a word is a number."""
    if not word.isascii() or not word.isdigit() or len(word) > MOST_DIGITS:
        return False
    return word == "0" or not word.startswith("0")


def _is_thing(word):
    """Whether a word is a constant, an error or a number."""
    return word in CONSTANTS or word in ERRORS or _is_figure(word)


def _thing(word):
    """The thing that a word of a text stands for."""
    return int(word) if _is_figure(word) else word


def _read_moment(words, line):
    """The pairs and the answer that the words of a line tell; the answer may be empty."""
    pairs = []
    for word in words:
        if ":" in word:
            pairs.append(_read_pair(word, line))
    for one, other in zip(pairs, pairs[1:]):
        if one >= other:
            raise InvalidText(line)
    answer = words[len(pairs):]
    # A pair that stands behind the answer leaves the answer without a word of its own.
    if not _is_answer_words(answer):
        raise InvalidText(line)
    return tuple(pairs), tuple([_thing(word) for word in answer])


def _read_pair(word, line):
    """The pair of a method and a number that a word tells."""
    method, _, number = word.partition(":")
    if method not in ANSWERS or not _is_figure(number):
        raise InvalidText(line)
    return method, int(number)


def _is_answer_words(words):
    """Whether words are those of an answer, or none."""
    if len(words) < 2:
        return words == [] or words[0] in LONE_WORDS
    return len(words) == 2 and words[0] in ("tells", "raises") and _is_thing(words[1])
