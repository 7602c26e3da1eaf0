"""What single steps work on; rows of code have their operands and results where steps have them."""

# From where on and up to where operands stand in the steps that have some; those of a call fill a tuple.
OPERANDS = {"mix": (3, 5), "scale": (2, 3), "dish": (3, 4), "copy": (2, 3), "put": (2, 3), "take": (2, 3)}
UNFILLING = {"wait": True, "if": True, "while": True, "ask": True, "jump": True}


def inner_bodies(step):
    """The bodies of a step that asks, in the order of their text."""
    if step[0] == "if":
        return (step[1], step[2])
    if step[0] == "while":
        return (step[1],)
    return ()


def operands_of(step):
    """What a step reads, copies, puts, takes or hands over."""
    word = step[0]
    if word in OPERANDS:
        begin, end = OPERANDS[word]
        return step[begin:end]
    if word == "call":
        return step[2]
    return step[1] if word == "end" else ()


def results_of(step):
    """The names that a step fills; for a put, the shelf."""
    word = step[0]
    if word in UNFILLING:
        return ()
    if word == "call":
        return step[3]
    return step[2] if word == "end" else step[1:2]


def row_with_spots(told, fills, wants):
    """A step without bodies, a get with its place, as a code row with these numbers of cups and cold places."""
    word = told[0]
    if word == "call":
        return ("call", told[1], wants, fills)
    items = list(told)
    if word != "wait":
        items[1] = fills[0]
    begin, end = OPERANDS.get(word, (0, 0))
    items[begin:end] = wants
    return tuple(items)
