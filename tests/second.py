"""Second, slower ways to what the package tells of places, soundness, runs and lives."""

import functools
import itertools

from sourwright.code import CodeProgram
from sourwright.flow import flow, steps
from sourwright.lifetypes import LifeType
from sourwright.rows import LifeRow

# Places.


def walked(body, answers):
    """The pairs of a place and an answer along a run through a body, with the exit at the end, if the answers reach."""
    found = []
    answers = list(answers)

    def size(steps_in):
        return sum(1 + sum(size(part) for part in step[1:] if step[0] in ("if", "while")) for step in steps_in)

    def carry(steps_in, first):
        place = first
        for step in steps_in:
            if step[0] == "if":
                answer = ask(place)
                if answer:
                    carry(step[1], place + 1)
                else:
                    carry(step[2], place + 1 + size(step[1]))
            elif step[0] == "while":
                while ask(place):
                    carry(step[1], place + 1)
            else:
                found.append((place, None))
            place += size([step])

    def ask(place):
        if not answers:
            raise StopIteration
        found.append((place, answers.pop(0)))
        return found[-1][1]

    try:
        carry(body, 0)
        found.append((size(body), None))
    except StopIteration:
        return None
    return found


# One form for steps and rows.


class Shape:
    """A procedure as steps with strings for carriers, and where each place leads."""

    def __init__(self, program, name):
        self.is_code = isinstance(program, CodeProgram)
        one = program[name]
        self.name = name
        self.steps = [string_row(row) if self.is_code else row for row in steps(one)]
        self.exit = len(self.steps)
        self.ahead = {place: [] for place in range(self.exit)}
        for place, answer, goal in flow(one):
            self.ahead[place].append((answer, goal))
        if self.is_code:
            self.params = ["c%d" % at for at in range(len(one.params))]
            self.kinds = list(one.params)
            count = [len(row[1]) for row in one.rows if row[0] == "end"][0]
            self.results = ["r%d" % at for at in range(count)]
        else:
            self.params = [param for param, _ in one.params]
            self.kinds = [kind for _, kind in one.params]
            self.results = list(one.results)


def string_row(row):
    c, p = "c{}".format, "p{}".format
    word = row[0]
    if word == "get":
        return ("get", c(row[1]), row[2], row[3])
    if word == "mix":
        return ("mix", c(row[1]), row[2], c(row[3]), c(row[4]))
    if word == "scale":
        return ("scale", c(row[1]), c(row[2]), row[3])
    if word == "dish":
        return ("dish", c(row[1]), row[2], c(row[3]))
    if word == "copy":
        return ("copy", c(row[1]), c(row[2]))
    if word == "put":
        return ("put", p(row[1]), c(row[2]))
    if word == "take":
        return ("take", c(row[1]), p(row[2]))
    if word == "call":
        return ("call", row[1], tuple(map(c, row[2])), tuple(map(c, row[3])))
    if word == "end":
        return ("end", tuple(map(c, row[1])))
    return row


def step_ticks(program, step):
    """The ticks of a step; of a call, those behind its callee."""
    if step[0] == "get":
        return [ticks for name, _, ticks in program.wells if name == step[2]][0]
    if step[0] == "dish":
        return [ticks for name, _, _, ticks in program.dishes if name == step[2]][0]
    if step[0] == "wait":
        return step[1]
    return 0 if step[0] in ("jump", "end") else 1


def made_kind(program, step):
    if step[0] == "get":
        return [kind for name, kind, _ in program.wells if name == step[2]][0]
    return [kind for name, _, kind, _ in program.dishes if name == step[2]][0]


def reads(step):
    return {"mix": step[3:5], "scale": step[2:3], "dish": step[3:4], "put": step[2:3]}.get(step[0], ())


# Soundness, by going through all states of all carriers together.


def all_states(program, shape, given_kinds):
    """For each place, the dict from each state of all carriers that some way brings to the fewest answers for it.

    A state is a tuple of pairs of a filled carrier and its kind, sorted.
    """
    found = [{} for _ in range(shape.exit + 1)]
    level = [(0, tuple(sorted(zip(shape.params, shape.kinds))))]
    count = 0
    while level:
        later = []
        while level:
            place, state = level.pop()
            if state in found[place]:
                continue
            found[place][state] = count
            if place == shape.exit:
                continue
            after = tuple(sorted(state_behind(program, shape, shape.steps[place], dict(state), given_kinds).items()))
            for answer, goal in shape.ahead[place]:
                (level if answer is None else later).append((goal, after))
        level = later
        count += 1
    return found


def state_behind(program, shape, step, state, given_kinds):
    def hand(source, target, kind):
        if source is not None:
            state[target] = source
        elif not shape.is_code:
            state[target] = kind
        else:
            state.pop(target, None)

    word = step[0]
    if word in ("get", "dish"):
        state[step[1]] = made_kind(program, step)
    elif word == "mix":
        hand(state.get(step[3]), step[1], "any")
    elif word in ("scale", "copy"):
        hand(state.get(step[2]), step[1], "any")
    elif word in ("put", "take"):
        hand(state.pop(step[2], None), step[1], "any")
    elif word == "call":
        for name, kind in zip(step[3], given_kinds[step[1]]):
            state[name] = kind
    return state


def first_fault(program):
    """The procedure, place, carrier and the fewest answers of the first fault, or None."""
    taken_kinds = {}
    given_kinds = {}
    for given in program.procedures:
        shape = Shape(program, given[0])
        found = all_states(program, shape, given_kinds)
        ended = None
        for place in range(shape.exit + 1):
            for carrier, wanted in demands(program, shape, place, found[place], taken_kinds, ended):
                fault = demand_fault(shape, found[place], carrier, wanted)
                if fault is not None:
                    return (given[0], place, carrier, fault)
            if place < shape.exit and shape.steps[place][0] == "end" and ended is None:
                ended = [dict(list(found[place])[0])[cup] for cup in shape.steps[place][1]]
        taken_kinds[given[0]] = shape.kinds
        given_kinds[given[0]] = ended if shape.is_code else ["any"] * len(shape.results)
    return None


def demands(program, shape, place, states, taken_kinds, ended):
    """The pairs of a carrier and what it must be: a kind, "free", or "any" kind but one."""
    if place == shape.exit:
        return [] if shape.is_code else [(name, "any") for name in shape.results]
    step = shape.steps[place]
    word = step[0]
    if word == "put":
        return [(step[1], "free"), (step[2], "any")]
    if word == "mix":
        firsts = {dict(state).get(step[3]) for state in states}
        kind = firsts.pop() if shape.is_code and len(firsts) == 1 else "any"
        return [(step[3], "any"), (step[4], kind)]
    if word == "dish":
        needs = [dish[1] for dish in program.dishes if dish[0] == step[2]][0]
        return [(step[3], needs if shape.is_code else "any")]
    if word == "call":
        return [(arg, kind if shape.is_code else "any") for arg, kind in zip(step[2], taken_kinds[step[1]])]
    if word == "end":
        return [(cup, ended[at] if ended else "any") for at, cup in enumerate(step[1])]
    if word in ("scale", "copy", "take"):
        return [(step[2], "any")]
    return []


def demand_fault(shape, states, carrier, wanted):
    """The fewest answers on which a carrier is not what it must be, or None if it always is."""
    kinds = {dict(state).get(carrier) for state in states}
    if wanted == "free":
        wrong = [state for state in states if carrier in dict(state)]
    elif wanted == "any":
        wrong = [state for state in states if carrier not in dict(state)]
    else:
        wrong = [state for state in states if dict(state).get(carrier) != wanted]
    if wrong:
        return min(states[state] for state in wrong)
    if shape.is_code and len(kinds) > 1:
        return min(states.values())
    return None


def way_of(shape, answers):
    """The places along the edges with these answers, up to where another one is asked for."""
    place = 0
    left = list(answers)
    found = []
    while True:
        found.append(place)
        if place == shape.exit or len(found) > 5000:
            return found
        ahead = dict(shape.ahead[place])
        if None in ahead:
            place = ahead[None]
        elif left:
            place = ahead[left.pop(0)]
        else:
            return found


# Runs, by carrying out bodies within bodies, or rows one after another.


class Stop(Exception):
    pass


class Runner:
    """Carries out a run, and remembers all events and what is filled behind each."""

    def __init__(self, program, name, lives, answers, worths, supply):
        self.program = program
        self.answers = list(answers)
        self.supply = supply
        self.tick = 0
        self.told = []
        self.counts = {}
        self.calls = []
        self.outcome = None
        try:
            pairs = self.procedure(name, list(zip(worths, lives)))
            self.outcome = tuple((worth, last - self.tick) for worth, last in pairs)
            self.tell(("done", self.tick))
        except Stop:
            pass

    def tell(self, event):
        self.told.append((event, self.tick))

    def procedure(self, name, pairs):
        one = self.program[name]
        values, shelves = {}, {}
        self.calls.append((name, values, shelves))
        if isinstance(self.program, CodeProgram):
            values.update(zip(["c%d" % at for at in range(len(pairs))], pairs))
            results = self.rows(name, one, values, shelves)
        else:
            values.update(zip([param for param, _ in one.params], pairs))
            self.body(name, one.body, 0, values, shelves)
            results = [values[result] for result in one.results]
        self.calls.pop()
        return results

    def rows(self, name, one, values, shelves):
        at = 0
        while True:
            row = string_row(one.rows[at])
            if row[0] == "ask":
                at = at + 1 if self.ask(name, at) else row[1]
            elif row[0] in ("jump", "end"):
                self.tell(("did", self.tick, name, at))
                if row[0] == "end":
                    return [values[cup] for cup in row[1]]
                at = row[1]
            else:
                self.ordinary(name, at, row, values, shelves)
                at += 1

    def body(self, name, body, place, values, shelves):
        """Carries out a body that begins at a place, and returns the place behind it."""
        for step in body:
            if step[0] == "if":
                yes = place + 1
                no = yes + count(step[1])
                self.body(name, step[1], yes, values, shelves) if self.ask(name, place) \
                    else self.body(name, step[2], no, values, shelves)
            elif step[0] == "while":
                while self.ask(name, place):
                    self.body(name, step[1], place + 1, values, shelves)
            else:
                self.ordinary(name, place, step, values, shelves)
            place += count([step])

    def ask(self, name, place):
        if not self.answers:
            self.tell(("asks", self.tick, name, place))
            raise Stop
        answer = self.answers.pop(0)
        begin = self.tick
        self.tick += 1
        self.tell(("asked", begin, name, place, answer))
        return answer

    def ordinary(self, name, place, step, values, shelves):
        begin = self.tick
        for one in reads(step):
            if values[one][1] < begin:
                self.tell(("sour", begin, name, place, one))
                raise Stop
        if step[0] == "call":
            self.tell(("called", begin, name, place))
            results = self.procedure(step[1], [values[arg] for arg in step[2]])
            self.tick += 1
            values.update(zip(step[3], results))
            self.tell(("returned", self.tick, name, place))
            return
        self.tick += step_ticks(self.program, step)
        self.fill(name, place, step, values, shelves, begin)
        self.tell(("did", begin, name, place))

    def fill(self, name, place, step, values, shelves, begin):
        word = step[0]
        if word == "get":
            asked = step[3] if len(step) == 4 else place
            times = self.counts.get((name, asked), 0)
            self.counts[name, asked] = times + 1
            values[step[1]] = (self.supply(name, asked, times), self.tick + self.keep(step))
        elif word == "dish":
            values[step[1]] = (values[step[3]][0], self.tick + self.keep(step))
        elif word == "mix":
            (one, first), (two, second) = values[step[3]], values[step[4]]
            values[step[1]] = (one + two if step[2] == "+" else one - two, min(first, second))
        elif word == "scale":
            values[step[1]] = (values[step[2]][0] * step[3], values[step[2]][1])
        elif word == "copy":
            values[step[1]] = values[step[2]]
        elif word == "put":
            worth, last = values.pop(step[2])
            shelves[step[1]] = (worth, last - begin)
        elif word == "take":
            worth, rest = shelves.pop(step[2])
            values[step[1]] = (worth, self.tick + rest)

    def keep(self, step):
        return dict(self.program.kinds)[made_kind(self.program, step)]


def count(body):
    return sum(1 + sum(count(part) for part in step[1:] if step[0] in ("if", "while")) for step in body)


# Lives, by following every chain until nothing grows.


class Chains:
    """All chains of a procedure with the calls written out; a count of 61 stands for all greater ones.

    A spot is the pairs of a procedure and a place that are open; a carrier belongs to one of these by its depth.
    """

    def __init__(self, program, name):
        self.program = program
        self.shape = functools.lru_cache(None)(lambda one: Shape(program, one))
        self.name = name
        self.spots = self.all_spots()

    def all_spots(self):
        found = {((self.name, 0),): None}
        waiting = list(found)
        while waiting:
            spot = waiting.pop()
            found[spot] = self.ahead(spot)
            for _, _, goal, _, _ in found[spot]:
                if goal not in found:
                    found[goal] = None
                    waiting.append(goal)
        return found

    def ahead(self, spot):
        """For each way on: the answer, the ticks, the spot there, how carriers go on, and the births.

        Carriers go on by a dict from one to its pairs of a carrier and whether it ages.
        """
        name, place = spot[-1]
        shape = self.shape(name)
        depth = len(spot)
        if place == shape.exit:
            if depth == 1:
                return []
            caller, at = spot[-2]
            above = self.shape(caller)
            step = above.steps[at]
            goal = spot[:-2] + ((caller, above.ahead[at][0][1]),)
            moves = {}
            for mine, result in zip(shape.results, step[3]):
                moves.setdefault((depth, mine), []).append(((depth - 1, result), True))
            return [(None, 1, goal, (moves, [(depth - 1, one) for one in step[3]], depth), [])]
        step = shape.steps[place]
        if step[0] == "call":
            callee = self.shape(step[1])
            moves = {}
            for arg, param in zip(step[2], callee.params):
                moves.setdefault((depth, arg), []).append(((depth + 1, param), True))
            return [(None, 0, spot + ((step[1], 0),), (moves, [], None), [])]
        moves, lost, births = {}, [], []
        word = step[0]
        if word in ("get", "dish"):
            births = [((depth, step[1]), dict(self.program.kinds)[made_kind(self.program, step)])]
            lost = [(depth, step[1])]
        elif word in ("mix", "scale", "copy", "put", "take"):
            lost = [(depth, step[1])]
            for source in step[3:5] if word == "mix" else step[2:3]:
                moves.setdefault((depth, source), []).append(((depth, step[1]), word not in ("put", "take")))
            if word in ("put", "take"):
                lost.append((depth, step[2]))
        elif word == "end":
            for at, cup in enumerate(step[1]):
                moves.setdefault((depth, cup), []).append(((depth, "r%d" % at), True))
        ticks = step_ticks(self.program, step)
        return [
            (answer, ticks, spot[:-1] + ((name, goal),), (moves, lost, None), births)
            for answer, goal in shape.ahead[place]
        ]

    def shelved(self, spot, carrier):
        """Whether a carrier that is open at this spot is a shelf."""
        depth, name = carrier
        shape = self.shape(spot[depth - 1][0])
        return any(
            (step[0] == "put" and step[1] == name) or (step[0] == "take" and step[2] == name) for step in shape.steps
        )

    def behind(self, spot, carrier, count):
        """The triples of a spot, a carrier and a count that follow."""
        for _, ticks, goal, (moves, lost, closed), _ in self.spots[spot]:
            for target, ages in moves.get(carrier, []):
                yield goal, target, min(61, count + (ticks if ages else 0))
            if carrier not in lost and carrier[0] != closed:
                ages = not self.shelved(spot, carrier)
                yield goal, carrier, min(61, count + (ticks if ages else 0))

    def follow(self, starts):
        """All triples of a spot, a carrier and a count that follow these."""
        found = set(starts)
        waiting = list(found)
        while waiting:
            for one in self.behind(*waiting.pop()):
                if one not in found:
                    found.add(one)
                    waiting.append(one)
        return found

    def read_at(self, spot):
        name, place = spot[-1]
        shape = self.shape(name)
        if place == shape.exit:
            return []
        return [(len(spot), one) for one in reads(shape.steps[place])]

    def life_type(self):
        """Keeps, needs, took, rows as pairs, and whether it sours by itself."""
        shape = self.shape(self.name)
        keeps = tuple(dict(self.program.kinds)[kind] for kind in shape.kinds)
        exit_spot = ((self.name, shape.exit),)
        needs = []
        lost = {result: [] for result in shape.results}
        left = {result: None for result in shape.results}
        for param in shape.params:
            found = self.follow([(((self.name, 0),), (1, param), 0)])
            needs.append(max([c for spot, one, c in found if one in self.read_at(spot)], default=-1))
            for result in lost:
                lost[result].append(max([c for s, one, c in found if s == exit_spot and one == (1, result)], default=None))
        sours = False
        births = {
            (goal, carrier, keep) for ahead in self.spots.values() for _, _, goal, _, made in ahead
            for carrier, keep in made
        }
        for goal, carrier, keep in births:
            found = self.follow([(goal, carrier, 0)])
            sours = sours or any(one in self.read_at(spot) and c > keep for spot, one, c in found)
            for result in shape.results:
                for spot, one, c in found:
                    if spot == exit_spot and one == (1, result):
                        ends = max(keep - c, -1)
                        left[result] = ends if left[result] is None else min(left[result], ends)
        took = self.greatest_ticks(exit_spot)
        rows = tuple((left[result], tuple(lost[result])) for result in shape.results)
        return keeps, tuple(needs), took, rows, sours

    def greatest_ticks(self, exit_spot):
        found = {(((self.name, 0),), 0)}
        waiting = list(found)
        while waiting:
            spot, ticks = waiting.pop()
            for _, more, goal, _, _ in self.spots[spot]:
                one = (goal, min(61, ticks + more))
                if one not in found:
                    found.add(one)
                    waiting.append(one)
        return max(ticks for spot, ticks in found if spot == exit_spot)


# The earliest sour read, by going through all runs up to a tick.


def earliest_by_runs(world, limit):
    """The earliest tick at which some run reads something sour, up to a limit, or None; the world stands as before."""
    best = None
    done = 0
    stack = [None]
    # Each entry of the stack is the next answer to try where the run asks, or None for a step that does not ask.
    while stack:
        bound = limit if best is None else best - 1
        event = world.step(stack[-1]) if world.tick <= bound else ("late",)
        if event[0] == "asks":
            stack[-1] = True
            continue
        if event[0] in ("sour", "done", "late"):
            if event[0] == "sour":
                best = event[1]
            stack.pop()
            while stack and stack[-1] is not True:
                stack.pop()
                world.undo()
            if stack:
                world.undo()
                stack[-1] = False
        else:
            done += 1
            if done > 20000:
                raise OverflowError
            stack.append(None)
    return best


# Standing for one another, by going through all lives.


def value_of(bound, lives):
    """What a row or None gives, reckoned term by term."""
    if bound is None:
        return -1
    found = [life - entry for life, entry in zip(lives, bound.lost) if entry is not None]
    found += [bound.left] if bound.left is not None else []
    return max(-1, min(found))


def is_never(one):
    return one.sours or any(need > keep for need, keep in zip(one.needs, one.keeps))


def may_stand(one, other):
    """The three conditions of [28], by going through all lives."""
    if is_never(other):
        return True
    if is_never(one):
        return False
    if any(mine > need for mine, need in zip(one.needs, other.needs)) or min(one.took, 60) > min(other.took, 60):
        return False
    for lives in itertools.product(*(range(need, keep + 1) for need, keep in zip(other.needs, other.keeps))):
        for mine, row in zip(one.rows, other.rows):
            if value_of(row, lives) >= 1 and value_of(mine, lives) < value_of(row, lives):
                return False
    return True


# Tables, rule by rule.


def table_stands(program, name, types, claimed, table):
    """Whether a value is a table that holds, by the words of [24]."""
    shape = Shape(program, name)
    many = len(shape.params)
    keeps = tuple(dict(program.kinds)[kind] for kind in shape.kinds)
    if not has_form(shape, many, table):
        return False
    needs, late, told = table
    rows = [{carrier: terms_of(row) for carrier, row in pairs} for pairs in told]
    for carrier, row in rows[0].items():
        if carrier not in shape.params or shape.params.index(carrier) not in row:
            return False

    def readable(row):
        return row.get("left", 0) >= 0 and all(row[at] <= needs[at] for at in range(many) if at in row)

    for place in range(shape.exit):
        step = shape.steps[place]
        before = rows[place]
        ticks = step_ticks(program, step)
        if step[0] == "call":
            callee = types[step[1]]
            if is_never(callee):
                return False
            ticks = callee.took + 1
            for arg, need in zip(step[2], callee.needs):
                if need >= 0 and (arg not in before or not readable(lowered(before[arg], need))):
                    return False
        for one in reads(step):
            if one not in before or not readable(before[one]):
                return False
        follow = following(program, shape, step, before, ticks, types, many)
        for _, goal in shape.ahead[place]:
            if late[goal] < min(61, late[place] + ticks):
                return False
            for carrier, row in rows[goal].items():
                if goal == shape.exit and shape.is_code and carrier not in shape.results:
                    return False
                if carrier not in follow:
                    return False
                for other in follow[carrier]:
                    for term in other:
                        if term not in row:
                            return False
                        if row[term] > other[term] if term == "left" else row[term] < other[term]:
                            return False
    ends = [rows[shape.exit].get(result) for result in shape.results]
    ends = [row and LifeRow(row.get("left"), tuple(row.get(at) for at in range(many))) for row in ends]
    return may_stand(LifeType(keeps, needs, late[shape.exit], ends), claimed)


def following(program, shape, step, before, ticks, types, many):
    """For each carrier that may have a row behind a step, the rows that follow."""
    word = step[0]
    colds = {one[1] for one in shape.steps if one[0] == "put"}
    if word == "end":
        return {"r%d" % at: [before[cup]] for at, cup in enumerate(step[1]) if cup in before}
    filled = list(step[3]) if word == "call" else [] if word in ("wait", "if", "while", "ask", "jump") else [step[1]]
    emptied = [step[2]] if word in ("put", "take") else []
    follow = {
        carrier: [row if carrier in colds else lowered(row, ticks)] for carrier, row in before.items()
        if carrier not in filled + emptied
    }
    if word in ("get", "dish"):
        follow[step[1]] = [{"left": dict(program.kinds)[made_kind(program, step)]}]
    elif word in ("put", "take") and step[2] in before:
        follow[step[1]] = [before[step[2]]]
    elif word in ("scale", "copy", "mix"):
        sources = step[3:5] if word == "mix" else step[2:3]
        if all(source in before for source in sources):
            follow[step[1]] = [lowered(before[source], ticks) for source in sources]
    elif word == "call":
        for name, row in zip(step[3], types[step[1]].rows):
            if row is None or any(lost is not None and arg not in before for arg, lost in zip(step[2], row.lost)):
                continue
            follow[name] = [{"left": max(row.left - 1, -1)}] if row.left is not None else []
            follow[name] += [lowered(before[arg], lost + 1) for arg, lost in zip(step[2], row.lost) if lost is not None]
    return follow


def terms_of(row):
    found = {at: lost for at, lost in enumerate(row.lost) if lost is not None}
    if row.left is not None:
        found["left"] = row.left
    return found


def lowered(row, ticks):
    return {term: max(-1, row[term] - ticks) if term == "left" else min(61, row[term] + ticks) for term in row}


def has_form(shape, many, table):
    def integer(value, low, high):
        return isinstance(value, int) and not isinstance(value, bool) and low <= value <= high

    if not isinstance(table, tuple) or len(table) != 3 or any(not isinstance(part, tuple) for part in table):
        return False
    needs, late, rows = table
    if len(needs) != many or len(late) != shape.exit + 1 or len(rows) != shape.exit + 1:
        return False
    if any(not integer(need, -1, 60) for need in needs) or any(not integer(tick, 0, 61) for tick in late):
        return False
    for pairs in rows:
        if not isinstance(pairs, tuple) or any(not isinstance(pair, tuple) or len(pair) != 2 for pair in pairs):
            return False
        if any(not isinstance(carrier, str) or not isinstance(row, LifeRow) for carrier, row in pairs):
            return False
        if len({carrier for carrier, _ in pairs}) < len(pairs):
            return False
        for _, row in pairs:
            if len(row.lost) != many or (row.left is None and all(lost is None for lost in row.lost)):
                return False
            if not (row.left is None or integer(row.left, -1, 60)):
                return False
            if any(not (lost is None or integer(lost, 0, 61)) for lost in row.lost):
                return False
    return True
