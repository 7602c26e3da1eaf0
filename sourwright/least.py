"""The least lives that values can have at a place, over all ways there from a start.

Steps are told as operations: tuples that begin with the word of the step, and have ticks and keeps where steps have
wells, dishes and callees. `GOING_ON` tells how values stand behind each of them.
"""

# As a last tick, before all ticks; as a rest, too little to be read.
SOUR = -1


class Least:
    """How values stand at a place: the tick now, the last ticks of the names, and the rests on the shelves.

    Where there are several ways, all that counts is how much longer a value is good, and the least of this.
    """

    def __init__(self, now, last_by_name, rest_by_shelf):
        self.now = now
        self.last_by_name = last_by_name
        self.rest_by_shelf = rest_by_shelf

    def copied(self):
        """The same once more."""
        return Least(self.now, dict(self.last_by_name), dict(self.rest_by_shelf))

    def goes_along(self, ops):
        """Goes on along operations; False if something can be sour when it is read."""
        for op in ops:
            goes_on = GOING_ON[op[0]]
            if not goes_on(self, op):
                return False
        return True

    def is_fresh_along(self, ops):
        """Whether nothing can be sour when it is read along operations from here."""
        return self.copied().goes_along(ops)

    def meet(self, other):
        """Goes on where another way comes to the same place; returns the names and shelves for which it is worse."""
        more = self.now - other.now
        names = least_of_both(self.last_by_name, other.last_by_name, more)
        return (names, least_of_both(self.rest_by_shelf, other.rest_by_shelf, 0))

    def spoil(self, names, shelves):
        """Makes these names and shelves sour."""
        for name in names:
            self.last_by_name[name] = SOUR
        for shelf in shelves:
            self.rest_by_shelf[shelf] = SOUR


def least_of_both(mine, others, more):
    """Lowers entries to those of another dict, which count so much more; returns the keys of those that are lowered.

    What the other one has not is dropped, as it is not surely filled. What is sour is as low as it can be.
    """
    lowered = []
    for carrier in list(mine):
        if carrier not in others:
            del mine[carrier]
        elif others[carrier] + more < mine[carrier] and mine[carrier] > SOUR:
            mine[carrier] = max(others[carrier] + more, SOUR)
            lowered.append(carrier)
    return lowered


def goes_on_by_get(least, op):
    """Goes on behind a get; False if something can be sour when it is read. So it is for each form of operation."""
    _, made, ticks, keep = op
    least.now += ticks
    least.last_by_name[made] = least.now + keep
    return True


def goes_on_by_mix(least, op):
    _, made, one, two = op
    last = min(least.last_by_name[one], least.last_by_name[two])
    if last < least.now:
        return False
    least.last_by_name[made] = last
    least.now += 1
    return True


def goes_on_by_scale(least, op):
    _, made, one = op
    if least.last_by_name[one] < least.now:
        return False
    least.last_by_name[made] = least.last_by_name[one]
    least.now += 1
    return True


def goes_on_by_dish(least, op):
    _, made, one, ticks, keep = op
    if least.last_by_name[one] < least.now:
        return False
    least.now += ticks
    least.last_by_name[made] = least.now + keep
    return True


def goes_on_by_copy(least, op):
    _, made, one = op
    least.last_by_name[made] = least.last_by_name[one]
    least.now += 1
    return True


def goes_on_by_wait(least, op):
    least.now += op[1]
    return True


def goes_on_by_put(least, op):
    _, shelf, one = op
    rest = least.last_by_name.pop(one) - least.now
    least.rest_by_shelf[shelf] = rest
    least.now += 1
    return rest >= 0


def goes_on_by_take(least, op):
    _, made, shelf = op
    least.now += 1
    least.last_by_name[made] = least.now + least.rest_by_shelf.pop(shelf)
    return True


def goes_on_by_if(least, op):
    _, yes, no = op
    least.now += 1
    other = least.copied()
    if not least.goes_along(yes) or not other.goes_along(no):
        return False
    least.meet(other)
    return True


def goes_on_by_while(least, op):
    _, body, changed = op
    # What the body can leave as it is can wait there for any number of rounds.
    least.spoil([name for name in least.last_by_name if name not in changed], ())
    rounds = 0
    while True:
        around = least.copied()
        around.now += 1
        if not around.goes_along(body):
            return False
        names, shelves = least.meet(around)
        if not names and not shelves:
            least.now += 1
            return True
        rounds += 1
        # What falls after more rounds than there are carriers went in circles that take time, and falls without end.
        if rounds > len(least.last_by_name) + len(least.rest_by_shelf):
            least.spoil(names, shelves)


def goes_on_by_call(least, op):
    _, reads, ticks, made = op
    lasts = least.last_by_name
    for arg, need in reads:
        if lasts[arg] - least.now < need:
            return False
    lives = [min(bounds + [lasts[arg] - least.now - lost for arg, lost in losts]) for _, bounds, losts in made]
    least.now += ticks
    for (name, _, _), life in zip(made, lives):
        lasts[name] = least.now + life
    return True


def goes_on_never(_, op):
    return False


GOING_ON = {
    "get": goes_on_by_get, "mix": goes_on_by_mix, "scale": goes_on_by_scale, "dish": goes_on_by_dish,
    "copy": goes_on_by_copy, "wait": goes_on_by_wait, "put": goes_on_by_put, "take": goes_on_by_take,
    "if": goes_on_by_if, "while": goes_on_by_while, "call": goes_on_by_call, "never": goes_on_never,
}


def ops_of(program, body, types):
    """The operations of a body, by the types given for the procedures that are called."""
    return tuple([op_of(program, step, types) for step in body])


def op_of(program, step, types):
    """The operation of a step, by the types given for the procedures that are called."""
    word = step[0]
    if word == "get":
        kind, ticks = program.well_of(step[2])
        return (word, step[1], ticks, program.keep_of(kind))
    if word == "dish":
        _, kind, ticks = program.dish_of(step[2])
        return (word, step[1], step[3], ticks, program.keep_of(kind))
    if word == "mix":
        return (word, step[1], step[3], step[4])
    if word == "if":
        return (word, ops_of(program, step[1], types), ops_of(program, step[2], types))
    if word == "while":
        body = ops_of(program, step[1], types)
        return (word, body, surely_changed(body))
    if word == "call":
        return op_of_call(step, types[step[1]])
    return step[:3]


def op_of_call(step, life_type):
    """The operation of a call of a procedure with this type.

    It has the arguments that are read with the lives that they need, the ticks, and for each result its name, a list
    with the bound that does not depend on the arguments, if there is one, and what it loses to arguments.
    """
    if life_type.sours:
        return ("never",)
    _, _, args, filled = step
    made = []
    for name, row in zip(filled, life_type.rows):
        left = -1 if row is None else row.left
        bounds = [] if left is None else [max(left - 1, -1)]
        losts = [] if row is None else [(arg, lost + 1) for arg, lost in zip(args, row.lost) if lost is not None]
        made.append((name, bounds, losts))
    reads = [(arg, need) for arg, need in zip(args, life_type.needs) if need >= 0]
    return ("call", reads, life_type.took + 1, made)


def surely_changed(ops):
    """The names that are filled or emptied on all ways along operations, as keys of a dict."""
    found = {}
    for op in ops:
        word = op[0]
        if word == "if":
            other = surely_changed(op[2])
            found.update({name: True for name in surely_changed(op[1]) if name in other})
        elif word == "call":
            found.update({name: True for name, _, _ in op[3]})
        elif word == "put":
            found[op[2]] = True
        elif word not in ("wait", "while", "never"):
            found[op[1]] = True
    return found


def paths_to_places(ops, before):
    """The paths to the places of a body and of all bodies in it, in their order, from the path to it.

    A path goes by turns to the operation at an index, and to one of its items, which is a body.
    """
    found = []
    for at, op in enumerate(ops):
        found.append(before + (at,))
        if op[0] in ("if", "while"):
            found.extend(paths_to_places(op[1], before + (at, 1)))
        if op[0] == "if":
            found.extend(paths_to_places(op[2], before + (at, 2)))
    return found


def with_op(ops, path, more):
    """The operations with one more ahead of that at the end of a path."""
    at = path[0]
    if len(path) == 1:
        return ops[:at] + (more,) + ops[at:]
    around = list(ops[at])
    around[path[1]] = with_op(around[path[1]], path[2:], more)
    if around[0] == "while" and more[0] == "get":
        around[2] = surely_changed(around[1])
    return ops[:at] + (tuple(around),) + ops[at + 1:]
