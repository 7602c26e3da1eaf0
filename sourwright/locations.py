"""Whether tables of locations hold: where values of the text lie ahead of each row of its code."""

from sourwright.forms import as_tuple, is_string, is_tuple, is_within
from sourwright.plans import Plan, kinds_taken

# No row carries these steps out, and these rows carry no step out.
SILENT = ("copy", "put", "take")
MOVING = ("copy", "put", "take", "jump")
# What must be the same in a step and in the row that carries it out, by where it stands in both.
SAME_PARTS = {"get": (2, 3), "mix": (2,), "scale": (3,), "dish": (2,), "wait": (1,), "call": (1,), "ask": ()}
SPOTS = ("0", "1", "2", "3", "4", "5", "6", "7", "8", "9", "10", "11", "12", "13", "14", "15")


def locations_hold(program, code, name, value):
    """Whether a value is a location table that holds for the text and the code of a procedure."""
    if name not in program or name not in code or kinds_taken(program[name]) != tuple(code[name].params):
        return False
    text = Plan(program, name)
    rows = Plan(code, name)
    entries = as_tuple(value)
    if not is_location_table(text, rows, entries):
        return False
    begun = {(param, cup): True for param, cup in zip(text.taken, rows.taken)}
    if not agrees(text, 0, begun, entries[0]):
        return False
    return all([goes_on(text, rows, row, entries) for row in range(len(entries))])


def is_location_table(text, rows, value):
    """Whether a value has the form of a location table for these plans."""
    if not is_tuple(value) or len(value) != rows.exit_place:
        return False
    carriers = text.carriers()
    for entry in value:
        if not is_tuple(entry) or len(entry) != 2:
            return False
        if not is_within(entry[0], 0, text.exit_place) or not are_pairs(entry[1], carriers):
            return False
    return True


def are_pairs(value, carriers):
    """Whether a value is a tuple of different pairs of one of these carriers and a cup or cold place."""
    if not is_tuple(value):
        return False
    for pair in value:
        if not is_tuple(pair) or len(pair) != 2 or pair[0] not in carriers or not is_where(pair[1]):
            return False
    return len(set(value)) == len(value)


def is_where(value):
    """Whether a value is the string of a cup or a cold place."""
    return is_string(value) and value[:1] in ("c", "p") and value[1:] in SPOTS


def goes_on(text, rows, row, entries):
    """Whether a row keeps what its entry tells, up to the entries of the rows that it goes on to."""
    op = rows.ops[row]
    place, told = entries[row]
    pairs = {pair: True for pair in told}
    if op.word in MOVING:
        goals = [(place, goal) for _, goal in rows.ways[row]]
        behind = moved(op, pairs)
    else:
        if not carries_out(text, place, op, pairs):
            return False
        if op.word == "end":
            return True
        ahead = {answer: goal for answer, goal in text.ways[place]}
        goals = [(ahead[answer], goal) for answer, goal in rows.ways[row]]
        behind = pairs_behind(text.ops[place], op, pairs)
    return all([agrees(text, following, behind, entries[goal]) for following, goal in goals])


def carries_out(text, place, op, pairs):
    """Whether a row carries out the step of the text at a place, with its operands where these pairs tell."""
    if place == text.exit_place:
        if op.word != "end":
            return False
        wants = text.given
    else:
        step = text.ops[place]
        if step.word != op.word or step.word in SILENT or len(step.fills) != len(op.fills):
            return False
        if [step.told[at] for at in SAME_PARTS[op.word]] != [op.told[at] for at in SAME_PARTS[op.word]]:
            return False
        wants = step.wants
    return len(wants) == len(op.wants) and all([pair in pairs for pair in zip(wants, op.wants)])


def pairs_behind(step, op, pairs):
    """The pairs behind a row that carries out a step."""
    found = {pair: True for pair in pairs if pair[0] not in step.fills and pair[1] not in op.fills}
    for pair in zip(step.fills, op.fills):
        found[pair] = True
    return found


def moved(op, pairs):
    """The pairs behind a row that only moves."""
    if op.word == "jump":
        return pairs
    source, target = op.wants[0], op.fills[0]
    if source == target:
        return pairs
    found = {}
    for carrier, where in pairs:
        if where == source:
            found[carrier, target] = True
        if where != target and (where != source or op.word == "copy"):
            found[carrier, where] = True
    return found


def passed(step, pairs):
    """The pairs behind a silent step."""
    source, target = step.wants[0], step.fills[0]
    if source == target:
        return pairs
    found = {}
    for carrier, where in pairs:
        if carrier == source:
            found[target, where] = True
        if carrier != source or step.word == "copy":
            if carrier != target or step.word == "put":
                found[carrier, where] = True
    return found


def agrees(text, place, pairs, entry):
    """Whether passing silent steps leads from a place with these pairs to that of an entry with all of its pairs."""
    goal, told = entry
    while place != goal:
        if place == text.exit_place or text.ops[place].word not in SILENT:
            return False
        pairs = passed(text.ops[place], pairs)
        place = text.ways[place][0][1]
    return all([pair in pairs for pair in told])
