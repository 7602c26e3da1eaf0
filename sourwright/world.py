"""Runs, step by step."""

from sourwright.errors import InvalidStart
from sourwright.frames import Call, held_behind, without
from sourwright.plans import Plan
from sourwright.starts import check_lives

# Events that change nothing, with which going on ends.
LAST_EVENTS = ("sour", "done", "asks")


def check_start(program, name, lives):
    """True if these are lives of the parameters of a procedure; otherwise it raises."""
    check_lives(program, name, lives)
    return True


class World:
    """A run that steps forward and back.

    How it stands is a tuple: the tick, the next place, the dicts of what the names and the shelves of the innermost
    call hold, this call, and what the last step counted, or None. For an open call around it, the place is that of the
    call. Names hold pairs of a worth and a last tick, shelves of a worth and a rest. Neither such a tuple nor its dicts
    are changed.
    """

    def __init__(self, program, name, lives, *, worths=None, supply=None):
        check_lives(program, name, lives)
        first = Plan(program, name)
        if worths is None:
            worths = [1] * len(lives)
        if len(worths) != len(lives):
            raise InvalidStart("worth", len(lives))
        self._program = program
        self._supply = supply
        self._plans = {name: first}
        held = {taken: (worth, life) for taken, worth, life in zip(first.taken, worths, lives)}
        self._now = (0, 0, held, {}, Call(first, None), None)
        # How it stood before each step.
        self._past = []
        # How often each get was carried out, by the procedure and the place that the supply is asked with.
        self._counts = {}

    @property
    def tick(self):
        """The current tick."""
        return self._now[0]

    def innermost(self):
        """The plan of the innermost open call, and the place in it."""
        return (self._now[4].plan, self._now[1])

    def where(self):
        """The pairs of a procedure and a place, from the start to the innermost open call."""
        found = []
        stood = self._now
        while stood is not None:
            _, place, _, _, call, _ = stood
            found.append((call.name, place))
            stood = call.outer
        return tuple(found[::-1])

    def filled(self):
        """A dict from the filled names of the innermost open call to their worths and lives."""
        tick, _, held, _, call, _ = self._now
        return {name: (held[name][0], held[name][1] - tick) for name in call.filled_names(held)}

    def resting(self):
        """A dict from the filled shelves of the innermost open call to their worths and rests."""
        return dict(self._now[3])

    def outcome(self):
        """The pairs of a worth and a life of the results at the exit of the start; before it None."""
        tick, place, held, _, call, _ = self._now
        if call.outer is not None or place != call.exit_place:
            return None
        return tuple([(held[name][0], held[name][1] - tick) for name in call.plan.given])

    def step(self, answer=None):
        """Carries out the next step and returns its event."""
        now = self._now
        tick, place, held, stored, call, _ = now
        if place == call.exit_place:
            return self._leave()
        op = call.ops[place]
        if op.is_quiet:
            self._past.append(now)
            self._now = (tick + op.ticks, op.goal, held, stored, call, None)
            return ("did", tick, call.name, place)
        word = op.word
        if word == "ask":
            if answer is None:
                return ("asks", tick, call.name, place)
            self._past.append(now)
            self._now = (tick + 1, op.goal if answer else op.goal_on_no, held, stored, call, None)
            return ("asked", tick, call.name, place, answer)
        if word == "call":
            return self._enter(op)
        for carrier in op.reads:
            if held[carrier][1] < tick:
                return ("sour", tick, call.name, place, carrier)
        behind = self._behind(op)
        self._past.append(now)
        self._now = behind
        return ("did", tick, call.name, place)

    def undo(self):
        """Takes back the last step that changed something; False if there is none."""
        if not self._past:
            return False
        counted = self._now[5]
        if counted is not None:
            self._counts[counted] -= 1
        self._now = self._past.pop()
        return True

    def events(self, answers):
        """Carries out steps with these answers, and yields their events, up to one that changes nothing."""
        at = 0
        is_going_on = True
        while is_going_on:
            event = self.step(answers[at] if at < len(answers) else None)
            if event[0] == "asked":
                at += 1
            elif event[0] in LAST_EVENTS:
                is_going_on = False
            yield event

    def _behind(self, op):
        """How it stands behind an operation that changes what is held or stored."""
        tick, _, held, stored, call, _ = self._now
        end = tick + op.ticks
        word = op.word
        if word == "get":
            counted = (call.name, op.told[3])
            worth = self._supplied(counted)
            return (end, op.goal, {**held, op.fills[0]: (worth, end + op.allowance)}, stored, call, counted)
        if word == "put":
            source = op.wants[0]
            worth, last = held[source]
            return (end, op.goal, without(held, source), {**stored, op.fills[0]: (worth, last - tick)}, call, None)
        if word == "take":
            source = op.wants[0]
            worth, rest = stored[source]
            return (end, op.goal, {**held, op.fills[0]: (worth, end + rest)}, without(stored, source), call, None)
        return (end, op.goal, held_behind(op, held, end), stored, call, None)

    def _supplied(self, counted):
        """The worth of the next new value of a get, which is counted by this."""
        times = self._counts.get(counted, 0)
        worth = 1
        if self._supply is not None:
            supply = self._supply
            worth = supply(counted[0], counted[1], times)
        self._counts[counted] = times + 1
        return worth

    def _enter(self, op):
        """Begins a call."""
        tick, place, held, _, call, _ = self._now
        name = op.told[1]
        if name not in self._plans:
            self._plans[name] = Plan(self._program, name)
        callee = self._plans[name]
        handed = {taken: held[arg] for taken, arg in zip(callee.taken, op.wants)}
        self._past.append(self._now)
        self._now = (tick, 0, handed, {}, Call(callee, self._now), None)
        return ("called", tick, call.name, place)

    def _leave(self):
        """Ends the innermost call, at its exit."""
        tick, _, held, _, callee, _ = self._now
        if callee.outer is None:
            return ("done", tick)
        _, place, before, stored, call, _ = callee.outer
        op = call.ops[place]
        after = dict(before)
        for given, filled in zip(callee.plan.given, op.fills):
            after[filled] = held[given]
        self._past.append(self._now)
        self._now = (tick + op.ticks, op.goal, after, stored, call, None)
        return ("returned", tick + op.ticks, call.name, place)


def run(program, name, lives, answers, *, worths=None, supply=None):
    """The last event of a run with these answers, and its outcome."""
    world = World(program, name, lives, worths=worths, supply=supply)
    last = None
    for event in world.events(answers):
        last = event
    return (last, world.outcome())
