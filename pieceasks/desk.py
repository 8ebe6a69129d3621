"""A desk, to which commands are said."""

from pieceasks.books import Book
from pieceasks.errors import InvalidCommand
from pieceasks.needs import least_promises
from pieceasks.promises import Promises
from pieceasks.shelves import Shelf
from pieceasks.words import right_name

NEWLINE = " ; "


def _on_lines(text):
    """A text in which newlines, and blanks at the begins of lines, are written as such."""
    lines = []
    for line in text.split(NEWLINE):
        bare = line.lstrip(".")
        lines.append(" " * (len(line) - len(bare)) + bare)
    return "\n".join(lines)


def _on_one_line(text):
    """A text in which newlines are written ` ; `, and blanks at the begins of lines as dots."""
    lines = []
    for line in text.split("\n"):
        bare = line.lstrip(" ")
        lines.append("." * (len(line) - len(bare)) + bare)
    return NEWLINE.join(lines)


def _words(command):
    """The words of a command."""
    words = command.split(" ")
    if "\n" in command or "" in words:
        raise InvalidCommand()
    return words


def _names(words, many):
    """The so many names with which words begin."""
    names = words[:many]
    if len(names) < many or not all([right_name(name) for name in names]):
        raise InvalidCommand()
    return names


def _rest(words, many):
    """The text of the words behind so many: at least one."""
    if len(words) <= many:
        raise InvalidCommand()
    return " ".join(words[many:])


def _under(words):
    """The text of the promises behind two names and `under`."""
    if len(words) < 4 or words[2] != "under":
        raise InvalidCommand()
    return _rest(words, 3)


def _said(row):
    """The words of a call or an end, joined."""
    if row[0] == "asks":
        return _said(row[1])
    words = []
    for item in row:
        words.extend(list(item) if isinstance(item, tuple) else [item])
    return ":".join([str(word) for word in words])


class Desk:
    """A shelf that is used by commands."""

    def __init__(self):
        self._shelf = Shelf()

    def say(self, command):
        """Does a command, and returns its answer."""
        first, *words = _words(command)
        match first:
            case "keep":
                return self._keep(_names(words, 1)[0], _rest(words, 1))
            case "show":
                return self._show(words)
            case "compare":
                return self._compare(_names(words, 2), _under(words) if len(words) > 2 else "")
            case "walk":
                return self._walk(_names(words, 1)[0], _rest(words, 1))
            case "least":
                return self._least(_names(words, 2), _under(words))
            case _:
                raise InvalidCommand()

    def _keep(self, name, text):
        """Keeps the piece of a text."""
        self._shelf[name] = _on_lines(text)
        return f"{len(self._shelf[name])} statements"

    def _show(self, words):
        """The text of a piece."""
        names = _names(words, 1)
        if len(words) > 1:
            raise InvalidCommand()
        return _on_one_line(str(self._shelf[names[0]]))

    def _pieces_of(self, names):
        """The pieces that are kept by names."""
        return [self._shelf[name] for name in names]

    def _compare(self, names, text):
        """Whether two pieces are alike, or a book that tells them apart."""
        # The names are looked at ahead of the promises.
        self._pieces_of(names)
        book = self._shelf.compare(names[0], names[1], Promises.read(text))
        return "alike" if book is None else _on_one_line(str(book))

    def _walk(self, name, text):
        """What a piece does on the book of a text."""
        piece = self._shelf[name]
        calls, coming = piece(Book.read(_on_lines(text)))
        return " ".join([_said(row) for row in (*[call for call, _ in calls], coming)])

    def _least(self, names, text):
        """The least sets of promises under which two pieces are alike."""
        one, other = self._pieces_of(names)
        found = least_promises(one, other, Promises.read(text))
        return " / ".join([str(some) or "-" for some in found]) or "none"
