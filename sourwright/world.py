"""Runs, step by step."""

from sourwright.errors import InvalidStart
from sourwright.frames import Frame, called_frame, carried_out, returned_frame
from sourwright.plans import Plan
from sourwright.starts import check_lives


def check_start(program, name, lives):
    """True if these are lives of the parameters of a procedure; otherwise it raises."""
    check_lives(program, name, lives)
    return True


class World:
    """A run that steps forward and back."""

    def __init__(self, program, name, lives, *, worths=None, supply=None):
        check_lives(program, name, lives)
        first = Plan(program, name)
        if worths is None:
            worths = [1] * len(lives)
        if len(worths) != len(lives):
            raise InvalidStart("worth", len(lives))
        self._program = program
        self._supply = supply
        self._plans = {name: first}
        held = {taken: (worth, life) for taken, worth, life in zip(first.taken, worths, lives)}
        # The innermost call stands last.
        self._frames = (Frame(first, 0, held, {}),)
        self._tick = 0
        # How often each get was carried out, by the procedure and the place that the supply is asked with.
        self._counts = {}
        # What stood before each step: the tick, the frames, and what the step counted, or None.
        self._past = []

    @property
    def tick(self):
        """The current tick."""
        return self._tick

    def innermost(self):
        """The plan of the innermost open call, and the place in it."""
        return (self._frames[-1].plan, self._frames[-1].place)

    def where(self):
        """The pairs of a procedure and a place, from the start to the innermost open call."""
        return tuple([(frame.plan.name, frame.place) for frame in self._frames])

    def filled(self):
        """A dict from the filled names of the innermost open call to their worths and lives."""
        frame = self._frames[-1]
        return {name: self._told(frame.held[name]) for name in frame.filled_names()}

    def resting(self):
        """A dict from the filled shelves of the innermost open call to their worths and rests."""
        return dict(self._frames[-1].stored)

    def outcome(self):
        """The pairs of a worth and a life of the results at the exit of the start; before it None."""
        if not self._is_done():
            return None
        return tuple([self._told(pair) for pair in self._frames[0].results_held()])

    def step(self, answer=None):
        """Carries out the next step and returns its event."""
        if self._is_done():
            return ("done", self._tick)
        frame = self._frames[-1]
        op = frame.next_op()
        if op is None:
            return self._come_back()
        sour = frame.first_sour(self._tick)
        if sour is not None:
            return ("sour", self._tick, frame.plan.name, frame.place, sour)
        if op.word == "ask":
            return self._ask(answer)
        if op.word == "call":
            return self._enter(op.told[1])
        return self._carry_out(op)

    def undo(self):
        """Takes back the last step that changed something; False if there is none."""
        if not self._past:
            return False
        self._tick, self._frames, counted = self._past.pop()
        if counted is not None:
            self._counts[counted] -= 1
        return True

    def events(self, answers):
        """Carries out steps with these answers, and yields their events, up to one that changes nothing."""
        at = 0
        is_going_on = True
        while is_going_on:
            event = self.step(answers[at] if at < len(answers) else None)
            if event[0] == "asked":
                at += 1
            is_going_on = event[0] not in ("sour", "done", "asks")
            yield event

    def _is_done(self):
        return len(self._frames) == 1 and self._frames[0].next_op() is None

    def _told(self, pair):
        """A worth and a last tick as a worth and a life."""
        return (pair[0], pair[1] - self._tick)

    def _go_on(self, ticks, frames, counted):
        """Lets so many ticks pass, with these frames behind them."""
        self._past.append((self._tick, self._frames, counted))
        self._tick += ticks
        self._frames = frames

    def _ask(self, answer):
        frame = self._frames[-1]
        if answer is None:
            return ("asks", self._tick, frame.plan.name, frame.place)
        event = ("asked", self._tick, frame.plan.name, frame.place, answer)
        self._go_on(1, self._frames[:-1] + (frame.gone_on(answer),), None)
        return event

    def _enter(self, name):
        frame = self._frames[-1]
        if name not in self._plans:
            self._plans[name] = Plan(self._program, name)
        self._go_on(0, self._frames + (called_frame(frame, self._plans[name]),), None)
        return ("called", self._tick, frame.plan.name, frame.place)

    def _come_back(self):
        frame = self._frames[-2]
        after = returned_frame(frame, self._frames[-1])
        self._go_on(1, self._frames[:-2] + (after,), None)
        return ("returned", self._tick, frame.plan.name, frame.place)

    def _carry_out(self, op):
        frame = self._frames[-1]
        counted = None
        worth = None
        if op.word == "get":
            counted = (frame.plan.name, op.told[3])
            worth = self._supplied(counted)
        event = ("did", self._tick, frame.plan.name, frame.place)
        after = carried_out(frame, self._tick, worth)
        self._go_on(op.ticks, self._frames[:-1] + (after,), counted)
        if counted is not None:
            self._counts[counted] = self._counts.get(counted, 0) + 1
        return event

    def _supplied(self, counted):
        """The worth of the next new value of a get."""
        if self._supply is None:
            return 1
        supply = self._supply
        return supply(counted[0], counted[1], self._counts.get(counted, 0))


def run(program, name, lives, answers, *, worths=None, supply=None):
    """The last event of a run with these answers, and its outcome."""
    world = World(program, name, lives, worths=worths, supply=supply)
    last = None
    for event in world.events(answers):
        last = event
    return (last, world.outcome())
