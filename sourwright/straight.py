"""What becomes of the names of straight procedures."""

from sourwright.plans import Plan
from sourwright.wanted import Wanted

UNFIT_WORDS = ("ask", "call", "copy", "put", "take")


class Straight:
    """A procedure without choices, loops and calls, and what becomes of its names from each place on.

    `wanted` and `read_later` have as keys of dicts the names that are used, or read, before they are filled again;
    `use_counts` counts the steps that read them, and the results as one more. `passing` has for each step from there
    on the pair of its ticks and of the names that are there, and are read behind it before they are filled again.
    `last_reads` has the ticks of all steps ahead of the last one that reads a name before it is filled again.
    """

    def __init__(self, program, name):
        self.plan = Plan(program, name)
        self.exit_place = self.plan.exit_place
        self.wanted = Wanted(program[name]).by_place({carrier: True for carrier in self.plan.carriers()})
        self.read_later = [{}]
        self.use_counts = [{result: 1 for result in self.plan.given}]
        for op in self.plan.ops[::-1]:
            later = {one: True for one in self.read_later[0] if one not in op.fills}
            counts = {one: self.use_counts[0][one] for one in self.use_counts[0] if one not in op.fills}
            for one in sorted(set(op.reads)):
                later[one] = True
                counts[one] = counts.get(one, 0) + 1
            self.read_later.insert(0, later)
            self.use_counts.insert(0, counts)
        self.passing = [self.names_passing(place) for place in range(self.exit_place + 1)]
        self.last_reads = [self.ticks_to_last_reads(place) for place in range(self.exit_place + 1)]

    def names_passing(self, place):
        """The pairs of ticks and names for the steps from a place on."""
        found = []
        left = list(self.wanted[place])
        for at in range(place, self.exit_place):
            op = self.plan.ops[at]
            left = [one for one in left if one not in op.fills]
            found.append((op.ticks, [one for one in left if one in self.read_later[at + 1]]))
        return found

    def ticks_to_last_reads(self, place):
        """A dict from the names that are read from a place on to the ticks until their last reads."""
        found = {}
        left = dict(self.wanted[place])
        ticks = 0
        for op in self.plan.ops[place:]:
            for name in op.reads:
                if name in left:
                    found[name] = ticks
            for name in op.fills:
                left.pop(name, None)
            ticks += op.ticks
        return found


def is_straight(program, name, most):
    """Whether a procedure is straight and has at most so many steps."""
    plan = Plan(program, name)
    return len(plan.ops) <= most and all([op.word not in UNFIT_WORDS for op in plan.ops])
