"""The earliest sour read among all ways through the text written out."""

from heapq import heappop, heappush

from sourwright.effects import births_of, moves_of, stays
from sourwright.plans import Plan


class Call:
    """A procedure where it is written out: its plan, the call within which it stands, and the place of its call."""

    def __init__(self, number, plan, outer, place):
        self.number = number
        self.plan = plan
        self.outer = outer
        self.place = place


class Spot:
    """A place on some way, with a value that is followed: the call that it belongs to, its carrier, its rest.

    The rest is what is left of its allowance; -1 stands for less, too. Without a value these are None. `before` is the
    spot that the way came from, and `answer` what was answered there.
    """

    def __init__(self, call, place, owner, carrier, rest):
        self.call = call
        self.place = place
        self.owner = owner
        self.carrier = carrier
        self.rest = rest
        self.before = None
        self.answer = None

    def is_sour(self):
        """Whether the step at this place reads the value sour."""
        if self.carrier is None or self.rest >= 0 or self.owner != self.call.number:
            return False
        plan = self.call.plan
        return self.place < plan.exit_place and self.carrier in plan.ops[self.place].reads

    def marks(self):
        """What is alike for spots that differ in the rest alone."""
        return (self.call.number, self.place, self.owner, self.carrier)

    def answers_so_far(self):
        """The answers on the way to this spot."""
        found = []
        spot = self
        while spot.before is not None:
            if spot.answer is not None:
                found.append(spot.answer)
            spot = spot.before
        return tuple(found[::-1])


class Search:
    """Goes through the spots in order of their ticks.

    Of two spots that differ in the rest alone, the later one is left out if its rest is not less: whatever it leads to,
    the earlier one leads to as early.
    """

    def __init__(self, program, name):
        self.program = program
        self.calls = [Call(0, Plan(program, name), None, None)]
        self.opened = {}
        self.spots = []
        self.queue = []
        self.least = {}

    def first_sour(self, lives):
        """The answers and the tick of an earliest sour read of a start that is not fresh."""
        first = self.calls[0]
        self.queue_up(0, Spot(first, 0, None, None, None))
        for carrier, life in zip(first.plan.taken, lives):
            self.queue_up(0, Spot(first, 0, 0, carrier, life))
        while True:
            tick, number = heappop(self.queue)
            spot = self.spots[number]
            if spot.is_sour():
                return (spot.answers_so_far(), tick)
            if self.is_new(spot):
                self.go_on(tick, spot)

    def queue_up(self, tick, spot):
        """Keeps a spot to be gone through at its tick."""
        heappush(self.queue, (tick, len(self.spots)))
        self.spots.append(spot)

    def is_new(self, spot):
        """Whether no spot with the same marks and as little rest was gone through before."""
        marks = spot.marks()
        rest = -2 if spot.rest is None else spot.rest
        if marks in self.least and self.least[marks] <= rest:
            return False
        self.least[marks] = rest
        return True

    def go_on(self, tick, spot):
        """Adds all spots that follow one."""
        plan = spot.call.plan
        if spot.place == plan.exit_place:
            if spot.call.outer is not None:
                self.come_back(tick, spot)
        elif plan.ops[spot.place].word == "call":
            self.enter(tick, spot)
        else:
            self.pass_step(tick, spot)

    def follow(self, tick, before, answer, spot):
        """Adds a spot that follows another one."""
        spot.before = before
        spot.answer = answer
        self.queue_up(tick, spot)

    def rest_behind(self, spot, ticks):
        """The rest of a value that stays in its carrier while so many ticks pass."""
        if spot.carrier is None or spot.carrier in self.calls[spot.owner].plan.colds:
            return spot.rest
        return max(spot.rest - ticks, -1)

    def pass_step(self, tick, spot):
        """Adds what follows a step that is no call."""
        call = spot.call
        op = call.plan.ops[spot.place]
        is_own = spot.owner == call.number
        ends = []
        if not is_own or stays(op, spot.carrier):
            ends.append((spot.owner, spot.carrier, self.rest_behind(spot, op.ticks)))
        if spot.carrier is None:
            ends.extend([(call.number, carrier, allowance) for carrier, allowance in births_of(op, {})])
        if is_own:
            for source, target, ticks in moves_of(op, {}):
                if source == spot.carrier:
                    ends.append((call.number, target, max(spot.rest - ticks, -1)))
        for answer, goal in call.plan.ways[spot.place]:
            for owner, carrier, rest in ends:
                self.follow(tick + op.ticks, spot, answer, Spot(call, goal, owner, carrier, rest))

    def enter(self, tick, spot):
        """Adds what follows the beginning of a call."""
        marks = (spot.call.number, spot.place)
        if marks not in self.opened:
            callee = spot.call.plan.ops[spot.place].told[1]
            self.opened[marks] = Call(len(self.calls), Plan(self.program, callee), spot.call, spot.place)
            self.calls.append(self.opened[marks])
        call = self.opened[marks]
        self.follow(tick, spot, None, Spot(call, 0, spot.owner, spot.carrier, spot.rest))
        if spot.owner == spot.call.number:
            for taken, arg in zip(call.plan.taken, spot.call.plan.ops[spot.place].wants):
                if arg == spot.carrier:
                    self.follow(tick, spot, None, Spot(call, 0, call.number, taken, spot.rest))

    def come_back(self, tick, spot):
        """Adds what follows the end of a call."""
        call = spot.call
        outer = call.outer
        op = outer.plan.ops[call.place]
        goal = outer.plan.ways[call.place][0][1]
        rest = self.rest_behind(spot, op.ticks)
        if spot.owner == call.number:
            for given, filled in zip(call.plan.given, op.fills):
                if given == spot.carrier:
                    self.follow(tick + op.ticks, spot, None, Spot(outer, goal, outer.number, filled, rest))
        elif spot.owner != outer.number or spot.carrier not in op.fills:
            self.follow(tick + op.ticks, spot, None, Spot(outer, goal, spot.owner, spot.carrier, rest))


def earliest_sour(program, name, lives):
    """The answers and the tick of an earliest sour read of a start that is not fresh."""
    return Search(program, name).first_sour(lives)
