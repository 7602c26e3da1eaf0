"""The forms that words, numbers, steps of programs and rows of code have."""

LETTERS = "abcdefghijklmnopqrstuvwxyz"
RESERVED = (
    "if", "else", "end", "while", "get", "mix", "scale", "dish", "copy", "wait", "put", "take", "call",
    "kind", "well", "part", "use",
)
# An if or while within so many bodies is refused, so that no text and no body is nested without limit.
MOST_BODIES = 8


def is_word(value):
    """Whether a value can be a name."""
    if not isinstance(value, str) or value in RESERVED:
        return False
    return 1 <= len(value) <= 6 and all([letter in LETTERS for letter in value])


def is_integer(value):
    """Whether a value is an integer; a boolean is none."""
    return isinstance(value, int) and not isinstance(value, bool)


def is_within(value, low, high):
    """Whether a value is an integer from low to high."""
    return is_integer(value) and low <= value <= high


def is_string(value):
    """Whether a value is a string."""
    return isinstance(value, str)


def is_sign(value):
    """Whether a value is the sign of a mix."""
    return value in ("+", "-")


def is_factor(value):
    """Whether a value can be the number of a scale."""
    return is_within(value, -9, 9)


def is_pause(value):
    """Whether a value can be the number of a wait."""
    return is_within(value, 1, 60)


def is_tuple(value):
    """Whether a value is a tuple, as the bodies of steps are."""
    return isinstance(value, tuple)


def is_names(value):
    """Whether a value is a tuple of names."""
    return is_tuple(value) and all([is_word(name) for name in value])


def is_place(value):
    """Whether a value can be the place that a get of code tells the supply."""
    return is_integer(value) and value >= 0


def is_spot(value):
    """Whether a value is the number of a cup or of a cold place."""
    return is_within(value, 0, 15)


def is_spots(value):
    """Whether a value is a tuple of cups."""
    return is_tuple(value) and all([is_spot(cup) for cup in value])


# The parts that stand behind the first word of a step, and of a code row; CHECKS tells what passes for each part.
STEP_FORMS = {
    "get": ("name", "string"),
    "mix": ("name", "sign", "name", "name"),
    "scale": ("name", "name", "factor"),
    "dish": ("name", "string", "name"),
    "copy": ("name", "name"),
    "wait": ("pause",),
    "put": ("name", "name"),
    "take": ("name", "name"),
    "if": ("body", "body"),
    "while": ("body",),
    "call": ("string", "names", "names"),
}
ROW_FORMS = {
    "get": ("spot", "string", "place"),
    "mix": ("spot", "sign", "spot", "spot"),
    "scale": ("spot", "spot", "factor"),
    "dish": ("spot", "string", "spot"),
    "copy": ("spot", "spot"),
    "wait": ("pause",),
    "put": ("spot", "spot"),
    "take": ("spot", "spot"),
    "ask": ("target",),
    "jump": ("target",),
    "call": ("string", "spots", "spots"),
    "end": ("spots",),
}
CHECKS = {
    "name": is_word,
    "names": is_names,
    "string": is_string,
    "sign": is_sign,
    "factor": is_factor,
    "pause": is_pause,
    "body": is_tuple,
    "spot": is_spot,
    "spots": is_spots,
    "place": is_place,
    "target": is_integer,
}


def is_step(value):
    """Whether a value is of one of the forms of steps, whatever stands in its bodies."""
    word = first_word(value)
    return word in STEP_FORMS and fits_all(value[1:], STEP_FORMS[word])


def is_row(value):
    """Whether a value is of one of the forms of code rows."""
    word = first_word(value)
    return word in ROW_FORMS and fits_all(value[1:], ROW_FORMS[word])


def first_word(value):
    """The string with which a tuple begins, or an empty one if the value is nothing of the kind."""
    if is_tuple(value) and len(value) > 0 and is_string(value[0]):
        return value[0]
    return ""


def fits_all(items, parts):
    """Whether there is an item for each part, and fits it."""
    return len(items) == len(parts) and all([fits(item, part) for item, part in zip(items, parts)])


def fits(item, part):
    """Whether an item can be this part of a step or row."""
    check = CHECKS[part]
    return check(item)
