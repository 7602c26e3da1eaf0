"""What single steps work on; rows of code have their operands and results where steps have them."""

# Where the operands stand in the steps that have some; those of a call fill a tuple.
OPERANDS = {"mix": (3, 4), "scale": (2,), "dish": (3,), "copy": (2,), "put": (2,), "take": (2,)}


def inner_bodies(step):
    """The bodies of a step that asks, in the order of their text."""
    if step[0] == "if":
        return (step[1], step[2])
    if step[0] == "while":
        return (step[1],)
    return ()


def steps_by_place(body):
    """The steps of a body and of all bodies in it, in the order of places."""
    found = []
    for step in body:
        found.append(step)
        for inner in inner_bodies(step):
            found.extend(steps_by_place(inner))
    return found


def operands_of(step):
    """What a step reads, copies, puts, takes or hands over."""
    if step[0] == "call":
        return step[2]
    if step[0] == "end":
        return step[1]
    return tuple([step[at] for at in OPERANDS.get(step[0], ())])


def results_of(step):
    """The names that a step fills; for a put, the shelf."""
    if step[0] == "call":
        return step[3]
    if step[0] == "end":
        return step[2]
    if step[0] in ("wait", "if", "while", "ask", "jump"):
        return ()
    return (step[1],)


def row_with_spots(told, fills, wants):
    """A step without bodies, a get with its place, as a code row with these numbers of cups and cold places."""
    word = told[0]
    if word == "call":
        return ("call", told[1], wants, fills)
    items = list(told)
    if word != "wait":
        items[1] = fills[0]
    for at, number in zip(OPERANDS.get(word, ()), wants):
        items[at] = number
    return tuple(items)
