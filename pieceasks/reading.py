"""The texts of pieces, read."""

from pieceasks.errors import InvalidText
from pieceasks.forms import COMPARISONS, LINKS, SIGNS, is_target
from pieceasks.words import right_name
from pieceasks.writing import AND, COMPARISON, IF_ELSE, NEGATIVE, NOT, OR, PRODUCT, SUM


class LineReader:
    """One line of a text, read from the left; `at` is the place of the next character."""

    def __init__(self, text, line):
        self.text = text
        self.line = line
        self.at = 0

    def skips(self, sign):
        """Whether a sign stands here; if so, goes behind it."""
        if not self.text.startswith(sign, self.at):
            return False
        self.at += len(sign)
        return True

    def skips_one(self, signs):
        """The first of these that stands here between blanks, or an empty string."""
        for sign in signs:
            if self.skips(f" {sign} "):
                return sign
        return ""

    def needs(self, sign):
        """Goes behind a sign that must stand here."""
        if not self.skips(sign):
            raise InvalidText(self.line)

    def ends(self):
        """Makes sure that nothing is left."""
        if self.at < len(self.text):
            raise InvalidText(self.line)

    def letters(self):
        """Goes behind the letters that stand here, and returns them."""
        start = self.at
        while self.at < len(self.text) and self.text[self.at].isalpha():
            self.at += 1
        return self.text[start:self.at]

    def plain_name(self):
        """The name that must stand here."""
        word = self.letters()
        if not right_name(word):
            raise InvalidText(self.line)
        return word

    def expression(self, least=IF_ELSE):
        """The longest expression that stands here and binds at least so tightly."""
        value = self.negated() if least <= NOT else self.tight(least)
        while least <= AND and self.skips(" and "):
            value = ("and", value, self.expression(NOT))
        while least <= OR and self.skips(" or "):
            value = ("or", value, self.expression(AND))
        if least <= IF_ELSE and self.skips(" if "):
            condition = self.expression(OR)
            self.needs(" else ")
            value = ("if", condition, value, self.expression())
        return value

    def negated(self):
        """The longest expression that stands here and binds at least as tightly as `not`."""
        # All that stands behind `not` and binds more tightly is its own, so nothing may follow it.
        if self.skips("not "):
            return ("not", self.negated())
        return self.tight(COMPARISON)

    def tight(self, least):
        """The longest expression that stands here and binds so tightly, more than `not`."""
        value = self.front(least)
        while least <= PRODUCT and self.skips(" * "):
            value = ("*", value, self.expression(NEGATIVE))
        while least <= SUM and (sign := self.skips_one(("+", "-"))):
            value = (sign, value, self.expression(PRODUCT))
        return self.compared(value) if least <= COMPARISON else value

    def front(self, least):
        """The expression that begins here, up to its first operator between operands."""
        if least <= NEGATIVE and self.skips("-"):
            return ("neg", self.expression(NEGATIVE))
        return self.behind(self.atom())

    def compared(self, value):
        """The comparison or chain that a value begins, or the value itself."""
        sign = self.skips_one(("is not", *COMPARISONS))
        if not sign:
            return value
        other = self.expression(SUM)
        if sign not in LINKS:
            return ("compare", sign, value, other)
        link = self.skips_one(LINKS)
        if not link:
            return ("compare", sign, value, other)
        return ("chain", sign, value, link, other, self.expression(SUM))

    def behind(self, value):
        """A value with the items, attributes and calls behind it."""
        while True:
            if self.skips("["):
                value = ("item", value, self.expression())
                self.needs("]")
            elif self.skips("."):
                value = ("attr", value, self.plain_name())
            elif self.skips("("):
                value = ("call", value, self.arguments())
            else:
                return value

    def arguments(self):
        """The arguments of a call, of which the first bracket is read."""
        if self.skips(")"):
            return ()
        found = [self.expression()]
        if self.skips(", "):
            found.append(self.expression())
        self.needs(")")
        return tuple(found)

    def atom(self):
        """A name, a constant, or an expression in brackets."""
        if self.skips("("):
            return self.bracketed()
        word = self.letters()
        if word in ("None", "True", "False"):
            return (word,)
        if not right_name(word):
            raise InvalidText(self.line)
        return word

    def bracketed(self):
        """What stands in brackets, of which the first is read."""
        start = self.at
        word = self.letters()
        if right_name(word) and self.skips(" := "):
            value = (":=", word, self.expression())
        else:
            self.at = start
            value = self.expression()
        self.needs(")")
        return value

    def target(self):
        """The target that must stand here; brackets stand around none."""
        in_brackets = self.text.startswith("(", self.at)
        first = self.atom()
        start = self.at
        value = self.behind(first)
        if not is_target(value) or (in_brackets and self.at == start):
            raise InvalidText(self.line)
        return value


def read_plain(text, line):
    """The statement without bodies that a line without its indent is."""
    if text in ("break", "continue", "pass"):
        return (text,)
    reader = LineReader(text, line)
    for sign in SIGNS:
        if f" {sign}= " in text:
            return _read_in_place(reader, sign)
    if reader.skips("del "):
        row = ("del", reader.target())
    elif reader.skips("raise "):
        row = ("raise", reader.expression())
    elif reader.skips("return "):
        row = ("return", reader.expression())
    elif " = " in text:
        row = _read_setting(reader)
    else:
        row = ("do", reader.expression())
    reader.ends()
    return row


def _read_in_place(reader, sign):
    """An in-place statement with this sign."""
    target = reader.target()
    reader.needs(f" {sign}= ")
    row = ("aug", sign, target, reader.expression())
    reader.ends()
    return row


def _read_setting(reader):
    """A statement that sets one or two targets."""
    target = reader.target()
    if reader.skips(" = "):
        return ("set", target, reader.expression())
    reader.needs(", ")
    targets = (target, reader.target())
    reader.needs(" = ")
    value = reader.expression()
    if reader.skips(", "):
        return ("swap", targets, (value, reader.expression()))
    return ("take", targets, value)


class TextReader:
    """The lines of a text, read from above; `at` is the index of the next one."""

    def __init__(self, lines):
        self.lines = lines
        self.at = 0

    def is_over(self):
        """Whether no line is left."""
        return self.at == len(self.lines)

    def indent(self):
        """With how many blanks the next line begins."""
        line = self.lines[self.at]
        return len(line) - len(line.lstrip(" "))

    def take(self):
        """Goes behind the next line, and returns it without its indent."""
        line = self.lines[self.at]
        self.at += 1
        return line.lstrip(" ")

    def names_behind(self, word):
        """The names that stand behind a word on the next line."""
        line = self.lines[self.at]
        first, *names = line.split(" ")
        if first != word or not all([right_name(name) for name in names]):
            raise InvalidText(self.at)
        self.at += 1
        return tuple(names)

    def read_body(self, depth):
        """The statements of a body that lies so deep: at least one."""
        rows = [self.read_statement(depth)]
        while not self.is_over() and self.indent() >= depth:
            rows.append(self.read_statement(depth))
        return tuple(rows)

    def read_statement(self, depth):
        """The statement that must begin with the next line, and lie so deep."""
        if self.is_over() or self.indent() != depth:
            raise InvalidText(self.at)
        line = self.at
        text = self.take()
        for word in ("if", "while", "for", "with"):
            if text.startswith(f"{word} "):
                return self.read_headed(word, LineReader(text, line), depth)
        if text == "try:":
            return self.read_tried(depth)
        return read_plain(text, line)

    def read_headed(self, word, reader, depth):
        """A statement whose first line begins with this word."""
        reader.needs(f"{word} ")
        head = []
        if word == "for":
            head.append(reader.target())
            reader.needs(" in ")
        head.append(reader.expression())
        if word == "with":
            head.append(reader.target() if reader.skips(" as ") else None)
        reader.needs(":")
        reader.ends()
        body = self.read_body(depth + 1)
        if word == "with":
            return (word, *head, body)
        return (word, *head, body, self.read_other(depth))

    def read_other(self, depth):
        """The body behind an `else` that lies so deep, or an empty one."""
        if self.is_over() or self.lines[self.at] != " " * depth + "else:":
            return ()
        self.at += 1
        return self.read_body(depth + 1)

    def read_tried(self, depth):
        """A statement that begins with `try`, of which the first line is read."""
        body = self.read_body(depth + 1)
        if self.is_over() or self.indent() != depth:
            raise InvalidText(self.at)
        line = self.at
        text = self.take()
        if text == "finally:":
            return ("finally", body, self.read_body(depth + 1))
        name = None
        if text != "except:":
            reader = LineReader(text, line)
            reader.needs("except as ")
            name = reader.plain_name()
            reader.needs(":")
            reader.ends()
        return ("except", body, name, self.read_body(depth + 1))


def read_piece(text):
    """The params, the body and what is kept (None for a whole piece) of a text."""
    reader = TextReader(text.split("\n"))
    params = reader.names_behind("params")
    kept = None
    if not reader.is_over() and reader.lines[1].split(" ")[0] == "kept":
        kept = reader.names_behind("kept")
    return params, reader.read_body(0), kept
