"""The forms that words, numbers and rows of code have."""

LETTERS = "abcdefghijklmnopqrstuvwxyz"
RESERVED = {
    "if": True, "else": True, "end": True, "while": True, "get": True, "mix": True, "scale": True, "dish": True,
    "copy": True, "wait": True, "put": True, "take": True, "call": True, "kind": True, "well": True, "part": True,
    "use": True,
}
# An if or while within so many bodies is refused, so that no text and no body is nested without limit.
MOST_BODIES = 8


def is_word(value):
    """Whether a value can be a name."""
    if not isinstance(value, str) or not value.isalpha() or not value.islower():
        return False
    return value.isascii() and len(value) <= 6 and value not in RESERVED


def is_integer(value):
    """Whether a value is an integer; a boolean is none."""
    return isinstance(value, int) and not isinstance(value, bool)


def is_within(value, low, high):
    """Whether a value is an integer from low to high."""
    return isinstance(value, int) and low <= value <= high and not isinstance(value, bool)


def is_string(value):
    """Whether a value is a string."""
    return isinstance(value, str)


def is_sign(value):
    """Whether a value is the sign of a mix."""
    return value in ("+", "-")


def is_factor(value):
    """Whether a value can be the number of a scale."""
    return isinstance(value, int) and -9 <= value <= 9 and not isinstance(value, bool)


def is_pause(value):
    """Whether a value can be the number of a wait."""
    return isinstance(value, int) and 1 <= value <= 60 and not isinstance(value, bool)


def is_tuple(value):
    """Whether a value is a tuple."""
    return isinstance(value, tuple)


def as_tuple(value):
    """A list, which may be passed for a tuple, as one; any other value as it is."""
    return tuple(value) if isinstance(value, list) else value


def is_place(value):
    """Whether a value can be the place that a get of code tells the supply."""
    return is_integer(value) and value >= 0


def is_spot(value):
    """Whether a value is the number of a cup or of a cold place."""
    return is_within(value, 0, 15)


def is_spots(value):
    """Whether a value is a tuple of cups."""
    return is_tuple(value) and all([is_spot(cup) for cup in value])


# The parts that stand behind the first word of a code row; CHECKS tells what passes for each part.
ROW_FORMS = {
    "get": ("spot", "string", "place"),
    "mix": ("spot", "sign", "spot", "spot"),
    "scale": ("spot", "spot", "factor"),
    "dish": ("spot", "string", "spot"),
    "copy": ("spot", "spot"),
    "wait": ("pause",),
    "put": ("spot", "spot"),
    "take": ("spot", "spot"),
    "ask": ("target",),
    "jump": ("target",),
    "call": ("string", "spots", "spots"),
    "end": ("spots",),
}
CHECKS = {
    "string": is_string,
    "sign": is_sign,
    "factor": is_factor,
    "pause": is_pause,
    "spot": is_spot,
    "spots": is_spots,
    "place": is_place,
    "target": is_integer,
}


def is_row(value):
    """Whether a value is of one of the forms of code rows."""
    if not is_tuple(value) or len(value) == 0 or not is_string(value[0]) or value[0] not in ROW_FORMS:
        return False
    parts = ROW_FORMS[value[0]]
    return len(value) == len(parts) + 1 and all([fits(item, part) for item, part in zip(value[1:], parts)])


def fits(item, part):
    """Whether an item can be this part of a row."""
    check = CHECKS[part]
    return check(item)
