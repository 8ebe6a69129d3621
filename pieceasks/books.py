"""Books: rows of answers on which pieces are walked."""

from pieceasks.book_texts import book_lines, read_book
from pieceasks.errors import InvalidBook, NoPlace
from pieceasks.methods import is_some_answer
from pieceasks.things import count_things, is_number, wrong_begin

METHODS = (
    "add", "bool", "call", "contains", "delattr", "delitem", "enter", "eq", "exit", "ge",
    "getattr", "getitem", "gt", "iadd", "imul", "isub", "iter", "le", "len", "lt",
    "mul", "ne", "neg", "next", "radd", "rmul", "rsub", "setattr", "setitem", "sub",
)


def _is_pair(value, many):
    """Whether any value is a pair of a method and one of so many things."""
    if not isinstance(value, tuple) or len(value) != 2:
        return False
    method, number = value
    return method in METHODS and is_number(number) and 0 <= number < many


def _ascending(pairs):
    """Pairs that are lacking, ascending, each once."""
    found = {f"{method}:{number:012}": (method, number) for method, number in pairs}
    return tuple([found[key] for key in sorted([str(key) for key in found])])


def _lacking_at(value, at, many):
    """What is lacking at a moment where so many things came before, of any value."""
    if not isinstance(value, (tuple, list)) or not all([_is_pair(pair, many) for pair in value]):
        raise InvalidBook("lacking", at)
    return _ascending(value)


def _checked(begin, moments, lacking):
    """The moments and what is lacking behind, as a book tells them."""
    at = wrong_begin(begin, True)
    if at is not None:
        raise InvalidBook("begin", at)
    many = count_things(begin)
    found = []
    for at, moment in enumerate(moments):
        if not isinstance(moment, tuple) or len(moment) != 2:
            raise InvalidBook("lacking", at)
        pairs, answer = moment
        found.append((_lacking_at(pairs, at, many), answer))
        if not is_some_answer(answer, many):
            raise InvalidBook("answer", at)
        if len(answer) == 2 and answer[1] == many:
            many = many + 1
    return tuple(found), _lacking_at(lacking, len(moments), many)


class Book:
    """A begin, moments with what is lacking and an answer, and what is lacking behind them."""

    def __init__(self, begin, moments=(), lacking=()):
        self._begin = tuple(begin)
        told, behind = _checked(self._begin, moments, lacking)
        self._moments = told
        self._lacking = behind

    @classmethod
    def read(cls, text):
        """The book of a text."""
        begin, moments, lacking = read_book(text)
        return cls(begin, moments, lacking)

    @classmethod
    def of(cls, data):
        """The book of a text in ASCII bytes."""
        return cls.read(data.decode("ascii"))

    @property
    def begin(self):
        return self._begin

    @property
    def moments(self):
        return self._moments

    @property
    def lacking(self):
        """What is lacking at the moment behind."""
        return self._lacking

    def upto(self, many):
        """The book of the first so many moments."""
        if many < 0 or many > len(self._moments):
            raise NoPlace(many)
        if many == len(self._moments):
            return Book(self._begin, self._moments, self._lacking)
        return Book(self._begin, self._moments[:many], self._moments[many][0])

    def packed(self):
        """The text as ASCII bytes."""
        return str(self).encode("ascii")

    def __str__(self):
        return "\n".join(book_lines(self._begin, self._moments, self._lacking))

    def __len__(self):
        return len(self._moments)

    def __add__(self, other):
        return Book(self._begin, (*self._moments, other))

    def __eq__(self, other):
        return (
            isinstance(other, Book) and self._begin == other._begin
            and self._moments == other._moments and self._lacking == other._lacking
        )

    def __lt__(self, other):
        if not isinstance(other, Book):
            return NotImplemented
        return (len(self._moments), str(self)) < (len(other._moments), str(other))

    def __le__(self, other):
        if not isinstance(other, Book):
            return NotImplemented
        return (len(self._moments), str(self)) <= (len(other._moments), str(other))

    def __gt__(self, other):
        if not isinstance(other, Book):
            return NotImplemented
        return (len(self._moments), str(self)) > (len(other._moments), str(other))

    def __ge__(self, other):
        if not isinstance(other, Book):
            return NotImplemented
        return (len(self._moments), str(self)) >= (len(other._moments), str(other))
