"""The forms that words, numbers and rows of code have."""

LETTERS = "abcdefghijklmnopqrstuvwxyz"
RESERVED = {
    "if": True, "else": True, "end": True, "while": True, "get": True, "mix": True, "scale": True, "dish": True,
    "copy": True, "wait": True, "put": True, "take": True, "call": True, "kind": True, "well": True, "part": True,
    "use": True,
}
# An if or while within so many bodies is refused, so that no text and no body is nested without limit.
MOST_BODIES = 8


def is_word(value):
    """Whether a value can be a name."""
    if not isinstance(value, str) or not value.isalpha() or not value.islower():
        return False
    return value.isascii() and len(value) <= 6 and value not in RESERVED


def is_integer(value):
    """Whether a value is an integer; a boolean is none."""
    return isinstance(value, int) and not isinstance(value, bool)


def is_within(value, low, high):
    """Whether a value is an integer from low to high."""
    return isinstance(value, int) and low <= value <= high and not isinstance(value, bool)


def is_string(value):
    """Whether a value is a string."""
    return isinstance(value, str)


def is_sign(value):
    """Whether a value is the sign of a mix."""
    return value in ("+", "-")


def is_factor(value):
    """Whether a value can be the number of a scale."""
    return isinstance(value, int) and -9 <= value <= 9 and not isinstance(value, bool)


def is_pause(value):
    """Whether a value can be the number of a wait."""
    return isinstance(value, int) and 1 <= value <= 60 and not isinstance(value, bool)


def is_tuple(value):
    """Whether a value is a tuple."""
    return isinstance(value, tuple)


def as_tuple(value):
    """A list, which may be passed for a tuple, as one; any other value as it is."""
    return tuple(value) if isinstance(value, list) else value


def is_place(value):
    """Whether a value can be the place that a get of code tells the supply."""
    return is_integer(value) and value >= 0


def is_spot(value):
    """Whether a value is the number of a cup or of a cold place."""
    return isinstance(value, int) and 0 <= value <= 15 and not isinstance(value, bool)


def is_spots(value):
    """Whether a value is a tuple of cups."""
    if not isinstance(value, tuple):
        return False
    for cup in value:
        if not is_spot(cup):
            return False
    return True


# What tells for each form of code rows whether the items behind the first word are right.
ROW_CHECKS = {
    "get": (is_spot, is_string, is_place),
    "mix": (is_spot, is_sign, is_spot, is_spot),
    "scale": (is_spot, is_spot, is_factor),
    "dish": (is_spot, is_string, is_spot),
    "copy": (is_spot, is_spot),
    "wait": (is_pause,),
    "put": (is_spot, is_spot),
    "take": (is_spot, is_spot),
    "ask": (is_integer,),
    "jump": (is_integer,),
    "call": (is_string, is_spots, is_spots),
    "end": (is_spots,),
}


def is_row(value):
    """Whether a value is of one of the forms of code rows."""
    if not isinstance(value, tuple) or len(value) == 0 or not isinstance(value[0], str) or value[0] not in ROW_CHECKS:
        return False
    checks = ROW_CHECKS[value[0]]
    if len(value) != len(checks) + 1:
        return False
    for at, item in enumerate(value[1:]):
        is_right = checks[at]
        if not is_right(item):
            return False
    return True
