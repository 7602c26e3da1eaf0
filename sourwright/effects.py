"""What operations do to the lives of values, with each call as one step by the life type given for its callee."""

AGING = ("mix", "scale", "copy")
MOVING = ("put", "take", "end")


def ticks_of_op(op, types):
    """The ticks of an operation, with those of its callee."""
    if op.word == "call":
        return types[op.told[1]].took + op.ticks
    return op.ticks


def moves_of(op, types):
    """The triples of an operand, a result that gets chains from it, and the ticks that count for these."""
    if op.word == "call":
        rows = types[op.told[1]].rows
        return [
            (source, target, lost + 1) for target, row in zip(op.fills, rows) if row is not None
            for source, lost in zip(op.wants, row.lost) if lost is not None
        ]
    if op.word in AGING:
        return [(source, op.fills[0], op.ticks) for source in op.wants]
    if op.word in MOVING:
        return [(source, target, 0) for source, target in zip(op.wants, op.fills)]
    return []


def births_of(op, types):
    """The pairs of a carrier and the allowance of what is born at the end of an operation."""
    if op.allowance is not None:
        return [(op.fills[0], op.allowance)]
    if op.word != "call":
        return []
    lefts = [-1 if row is None else row.left for row in types[op.told[1]].rows]
    return [(target, max(left - 1, -1)) for target, left in zip(op.fills, lefts) if left is not None]


def reads_of(op, types):
    """The pairs of a carrier that an operation reads, and how many ticks after its beginning."""
    if op.word != "call":
        return [(carrier, 0) for carrier in op.reads]
    return [(arg, need) for arg, need in zip(op.wants, types[op.told[1]].needs) if need >= 0]


def stays(op, carrier):
    """Whether a carrier has the same value behind an operation as ahead of it; only results are behind an end."""
    return op.word != "end" and carrier not in op.fills and carrier not in op.empties


def carriers_behind(op, types, carriers):
    """The carriers that have rows in a table behind an operation, if these, the keys of a dict, have some ahead."""
    lacking = {}
    if op.word == "call":
        lacking = {target: True for target, row in zip(op.fills, types[op.told[1]].rows) if row is None}
    for source, target, _ in moves_of(op, types):
        if source not in carriers:
            lacking[target] = True
    behind = {carrier: True for carrier in carriers if stays(op, carrier)}
    for carrier in op.fills:
        if carrier not in lacking:
            behind[carrier] = True
    return behind
