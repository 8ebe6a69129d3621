"""The errors of the package."""


class AskError(ValueError):
    """What each error of the package but UnknownName is."""


class InvalidPiece(AskError):
    """Params, kept names or statements make no piece."""

    def __init__(self, word, at):
        self.word = word
        self.at = at


class InvalidText(AskError):
    """A line of a text can't stand where it stands."""

    def __init__(self, line):
        self.line = line


class InvalidBook(AskError):
    """A begin, what is lacking or an answer does not fit."""

    def __init__(self, word, at):
        self.word = word
        self.at = at


class InvalidCode(AskError):
    """A row of a code is wrong."""

    def __init__(self, word, row):
        self.word = word
        self.row = row


class InvalidPromise(AskError):
    """A promise is none, or goes against one ahead of it."""

    def __init__(self, at):
        self.at = at


class Unlike(AskError):
    """Two pieces that should be alike part on a book."""

    def __init__(self, book):
        self.book = book


class Misfit(AskError):
    """Statements can't be taken out of a piece or put into it."""

    def __init__(self, word):
        self.word = word


class InvalidCommand(AskError):
    """A string is no command."""


class NoPlace(AskError):
    """There is no such place."""

    def __init__(self, at):
        self.at = at


class OtherShape(AskError):
    """Two that should have one shape have two."""


class UnknownName(KeyError):
    """Nothing is kept by this name."""

    def __init__(self, name):
        self.name = name
