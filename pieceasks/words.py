"""Names: the words that stand for things in a piece."""

LETTERS = "abcdefghijklmnopqrstuvwxyz"
LONGEST = 6
RESERVED = (
    "and", "or", "not", "in", "is", "if", "else", "while", "for", "with",
    "as", "try", "except", "return", "raise", "break", "pass", "del", "params", "kept",
)


def right_name(value):
    """Whether any value is a name."""
    if not isinstance(value, str) or value in RESERVED:
        return False
    return 1 <= len(value) <= LONGEST and all([letter in LETTERS for letter in value])


def wrong_name(values):
    """The index of the first value that is no name or occurred before, or None."""
    for at, value in enumerate(values):
        if not right_name(value) or value in values[:at]:
            return at
    return None
