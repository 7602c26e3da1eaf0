"""Second, slower ways to location tables, fewest cups and fewest ticks, and code drawn with tables that hold."""

import heapq
import itertools

from second import Shape, reads, step_ticks

from sourwright.code import CodeProgram
from sourwright.errors import InvalidCode

# Location tables, by the words of [39].


def wants(step):
    """What a step uses, in order."""
    if step[0] == "call":
        return step[2]
    if step[0] in ("copy", "take"):
        return step[2:3]
    return reads(step)


def fills(step):
    if step[0] == "call":
        return step[3]
    return () if step[0] in ("wait", "if", "while", "ask", "jump", "end") else (step[1],)


def has_table_form(shape, many, value):
    if not isinstance(value, tuple) or len(value) != many:
        return False
    known = set(shape.params) | set(shape.results)
    for step in shape.steps:
        known |= set(wants(step)) | set(fills(step))
    spots = {letter + str(at) for letter in "cp" for at in range(16)}
    for entry in value:
        if not isinstance(entry, tuple) or len(entry) != 2:
            return False
        place, pairs = entry
        if not isinstance(place, int) or isinstance(place, bool) or not 0 <= place <= shape.exit:
            return False
        if not isinstance(pairs, tuple):
            return False
        for pair in pairs:
            if not isinstance(pair, tuple) or len(pair) != 2 or pair[0] not in known or pair[1] not in spots:
                return False
        if any(pair in pairs[:at] for at, pair in enumerate(pairs)):
            return False
    return True


def states_passed(shape, place, pairs):
    """The state, and all states that passing silent steps leads to."""
    found = [(place, pairs)]
    while place != shape.exit and shape.steps[place][0] in ("copy", "put", "take"):
        word, target, source = shape.steps[place]
        spots = {where for carrier, where in pairs if carrier == source}
        if word == "copy" and target != source:
            pairs = {pair for pair in pairs if pair[0] != target} | {(target, where) for where in spots}
        if word == "put":
            pairs = {pair for pair in pairs if pair[0] != source} | {(target, where) for where in spots}
        if word == "take":
            pairs = {pair for pair in pairs if pair[0] not in (target, source)} | {(target, where) for where in spots}
        place = shape.ahead[place][0][1]
        found.append((place, pairs))
    return found


def agree(shape, place, pairs, entry):
    return any(there == entry[0] and set(entry[1]) <= held for there, held in states_passed(shape, place, pairs))


def table_is_right(program, code, name, value):
    """Whether a value is a location table that holds."""
    if name not in program or name not in code:
        return False
    shape, rows = Shape(program, name), Shape(code, name)
    if shape.kinds != rows.kinds or not has_table_form(shape, rows.exit, value):
        return False
    if not agree(shape, 0, {(one, "c%d" % at) for at, one in enumerate(shape.params)}, value[0]):
        return False
    for at, row in enumerate(rows.steps):
        place, pairs = value[at][0], set(value[at][1])
        word = row[0]
        if word in ("copy", "put", "take", "jump"):
            if word != "jump" and not (word == "copy" and row[1] == row[2]):
                moved = {(one, row[1]) for one, where in pairs if where == row[2]}
                gone = (row[1],) if word == "copy" else (row[1], row[2])
                pairs = {pair for pair in pairs if pair[1] not in gone} | moved
            after = {answer: place for answer, _ in rows.ahead[at]}
        else:
            step = ("end", tuple(shape.results)) if place == shape.exit else shape.steps[place]
            if not is_same_step(step, row, place):
                return False
            needed = step[1] if step[0] == "end" else wants(step)
            held = row[1] if word == "end" else wants(row)
            if len(needed) != len(held) or any(pair not in pairs for pair in zip(needed, held)):
                return False
            if word == "end":
                continue
            pairs = {pair for pair in pairs if pair[0] not in fills(step) and pair[1] not in fills(row)}
            pairs |= set(zip(fills(step), fills(row)))
            after = dict(shape.ahead[place])
        for answer, goal in rows.ahead[at]:
            if not agree(shape, after[answer], pairs, value[goal]):
                return False
    return True


def is_same_step(step, row, place):
    if row[0] == "ask":
        return step[0] in ("if", "while")
    if step[0] != row[0]:
        return False
    if row[0] == "get":
        return step[2] == row[2] and row[3] == place
    if row[0] in ("mix", "dish"):
        return step[2] == row[2]
    if row[0] == "scale":
        return step[3] == row[3]
    if row[0] == "call":
        return step[1] == row[1] and len(step[3]) == len(row[3])
    return row[0] == "end" or step == row


# Fewest cups, by ways, and by all ways to hand out cups.


def is_wanted(shape, place, name):
    """Whether some way from a place uses a name before it fills it."""
    seen = set()
    waiting = [place]
    while waiting:
        at = waiting.pop()
        if at in seen:
            continue
        seen.add(at)
        if at == shape.exit:
            if name in shape.results:
                return True
        elif name in wants(shape.steps[at]):
            return True
        elif name not in fills(shape.steps[at]):
            waiting.extend(goal for _, goal in shape.ahead[at])
    return False


def all_clashes(program, name):
    shape = Shape(program, name)
    names = program[name].names
    wanted = {place: [one for one in names if is_wanted(shape, place, one)] for place in range(shape.exit + 1)}
    found = set(itertools.permutations(shape.params, 2))
    for place, step in enumerate(shape.steps):
        filled = [one for one in fills(step) if one in names]
        found |= set(itertools.permutations(filled, 2))
        for _, goal in shape.ahead[place]:
            found |= set(itertools.permutations(wanted[goal], 2))
            found |= {(one, other) for one in filled for other in wanted[goal] if one != other}
    return found | {(other, one) for one, other in found}


def fewest_cups_by_all(program, name):
    names, params = program[name].names, [param for param, _ in program[name].params]
    clashes = all_clashes(program, name)
    others = [one for one in names if one not in params]
    for many in range(len(params), len(names) + 1):
        for given in itertools.product(range(many), repeat=len(others)):
            cups = dict(zip(params + others, list(range(len(params))) + list(given)))
            if all(cups[one] != cups[other] for one, other in clashes):
                return many
    return len(names)


# Fewest ticks, by going through all contents in the order of ticks.


def fewest_ticks_by_all(program, name, lives, cups, cold, most=10 ** 9):
    """The fewest ticks, or None; contents are pairs of a name, or None, and a life, or None for what is not filled."""
    shape = Shape(program, name)
    keeps = dict(program.kinds)
    start = tuple(zip(shape.params, lives)) + (None,) * (cups - len(lives))
    queue = [(0, 0, 0, start, (None,) * cold)]
    seen = set()
    number = 0

    def older(held, ticks):
        return tuple(pair and (pair[0], max(pair[1] - ticks, -1)) for pair in held)

    def put(ticks, place, held, stored):
        nonlocal number
        number += 1
        assert number < most
        heapq.heappush(queue, (ticks, number, place, held, stored))

    while queue:
        ticks, _, place, held, stored = heapq.heappop(queue)
        if (place, held, stored) in seen:
            continue
        seen.add((place, held, stored))
        if place == shape.exit:
            if all(any(pair and pair[0] == one for pair in held) for one in shape.results):
                return ticks
        else:
            step = shape.steps[place]
            options = [[cup for cup in range(cups) if held[cup] and held[cup][0] == one and held[cup][1] >= 0]
                       for one in wants(step)]
            took = step_ticks(program, step)
            for chosen in itertools.product(*options):
                after = older(held, took)
                if not fills(step):
                    put(ticks + took, place + 1, after, stored)
                    continue
                z = step[1]
                life = min([after[cup][1] for cup in chosen], default=None)
                if step[0] == "get":
                    life = keeps[dict((well[0], well[1]) for well in program.wells)[step[2]]]
                if step[0] == "dish":
                    life = keeps[dict((dish[0], dish[2]) for dish in program.dishes)[step[2]]]
                forget = [pair and ((None if pair[0] == z else pair[0]), pair[1]) for pair in after]
                colds = tuple(pair and ((None if pair[0] == z else pair[0]), pair[1]) for pair in stored)
                for cup in range(cups):
                    put(ticks + took, place + 1, tuple(forget[:cup] + [(z, life)] + forget[cup + 1:]), colds)
        after = older(held, 1)
        for cup in range(cups):
            for source in range(cups):
                if cup != source and held[source]:
                    put(ticks + 1, place, after[:cup] + (after[source],) + after[cup + 1:], stored)
            for spot in range(cold):
                if held[cup] and held[cup][1] >= 0 and stored[spot] is None:
                    put(ticks + 1, place, after[:cup] + (None,) + after[cup + 1:],
                        stored[:spot] + (held[cup],) + stored[spot + 1:])
                if stored[spot] is not None:
                    put(ticks + 1, place, after[:cup] + (stored[spot],) + after[cup + 1:],
                        stored[:spot] + (None,) + stored[spot + 1:])
    return None


# Code of other forms, with tables that hold.


def doubled(chance, rows, table):
    """Rows and a table that stand twice, with ways that go from one copy to the other."""
    many = len(rows)
    found = []
    for at, row in enumerate(rows + rows):
        if row[0] in ("ask", "jump"):
            row = (row[0], row[1] + (many if chance.random() < 0.5 else 0))
        found.append(row)
    return tuple(found), table + table


def with_moves(chance, rows, table):
    """Rows with a copy to a cup that nothing else uses, or a put and a take, laid in ahead of a row."""
    at = chance.randrange(len(rows))
    place, pairs = table[at]
    held = sorted({where for _, where in pairs if where[0] == "c"})
    if not held:
        return rows, table
    cup = int(chance.choice(held)[1:])
    if chance.random() < 0.5:
        used = {where for _, told in table for _, where in told} | {"c%d" % one for row in rows for one in cups_of(row)}
        free = [one for one in range(16) if "c%d" % one not in used]
        if not free:
            return rows, table
        more = [(("copy", free[0], cup), (place, pairs))]
    else:
        # A put and a take that were laid in before may stand around this row.
        cold = max([row[1] for row in rows if row[0] == "put"], default=-1) + 1
        if cold > 15:
            return rows, table
        resting = tuple((one, "p%d" % cold if where == "c%d" % cup else where) for one, where in pairs)
        more = [(("put", cold, cup), (place, pairs)), (("take", cup, cold), (place, resting))]
    shifted = [
        (row[0], row[1] + (len(more) if row[1] > at else 0)) if row[0] in ("ask", "jump") else row for row in rows
    ]
    new_rows = shifted[:at] + [row for row, _ in more] + shifted[at:]
    new_table = list(table[:at]) + [entry for _, entry in more] + list(table[at:])
    return tuple(new_rows), tuple(new_table)


def cups_of(row):
    """The cups in a row."""
    word = row[0]
    if word in ("ask", "jump", "wait"):
        return ()
    if word == "end":
        return row[1]
    if word == "call":
        return row[2] + row[3]
    return {"get": row[1:2], "mix": row[1:2] + row[3:5], "scale": row[1:3], "dish": row[1:2] + row[3:4],
            "copy": row[1:3], "put": row[2:3], "take": row[1:2]}[word]


def reshaped(chance, code, tables, times=3):
    """A code program that differs from one in rows laid in or doubled, with tables that hold."""
    given = [list(one) for one in code.procedures]
    found = list(tables)
    for _ in range(times):
        at = chance.randrange(len(given))
        if len(given[at][2]) > 60:
            continue
        change = chance.choice((doubled, with_moves, with_moves))
        rows, table = change(chance, given[at][2], found[at])
        changed = [tuple(one) for one in given]
        changed[at] = (given[at][0], given[at][1], rows)
        try:
            CodeProgram(code.kinds, code.wells, code.dishes, tuple(changed))
        except InvalidCode:
            continue
        given[at][2], found[at] = rows, table
    return CodeProgram(code.kinds, code.wells, code.dishes, tuple(tuple(one) for one in given)), tuple(found)
