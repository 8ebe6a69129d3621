"""Things: the numbers, constants and errors that a piece handles."""

CONSTANTS = ("None", "True", "False")
ERRORS = ("TypeError", "ValueError", "NameError")
FALSE = ("None", "False")
UNSET = "unset"


def is_number(value):
    """Whether any value is an integer: True and False are none."""
    return isinstance(value, int) and not isinstance(value, bool)


def is_beside(value):
    """Whether any value is what a part may hold at its begin besides numbers."""
    return value in CONSTANTS or value in ERRORS or value == UNSET


def count_things(begin):
    """How many things are numbered at a begin that is right."""
    many = 0
    for thing in begin:
        if thing == many:
            many = many + 1
    return many


def wrong_begin(begin, is_part):
    """The index of the first place of a begin that is not right, or None."""
    many = 0
    for at, thing in enumerate(begin):
        if is_number(thing):
            if thing < 0 or thing > many:
                return at
            if thing == many:
                many = many + 1
        elif not is_part or not is_beside(thing):
            return at
    return None
