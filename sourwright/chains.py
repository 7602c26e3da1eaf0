"""Chains: how values come from where they were born to where they are read or given."""

from sourwright.effects import births_of, carriers_behind, moves_of, reads_of, stays, ticks_of_op
from sourwright.lifetypes import LifeType
from sourwright.longest import MOST, greatest_counts
from sourwright.plans import Plan, needed_names
from sourwright.rows import LifeRow

# The counts of a birth begin as if it had the longest keep, so that one number stands for allowance and count.
LONGEST_KEEP = 60
# What passes the time without being a carrier.
CLOCK = ""


class Chains:
    """The greatest counts of all chains of a procedure, with each call as one step by the types given for callees.

    The first count at a node, which is a place and a carrier, is that of births, the next ones those of parameters.
    """

    def __init__(self, plan, types):
        self.plan = plan
        self.callee_types = types
        starts = self._starts()
        self.counts = greatest_counts(starts, self._ways_from(starts))
        self.composed = self._composed_type()

    def _starts(self):
        """The counts where chains begin."""
        none = [-1] * (len(self.plan.taken) + 1)
        starts = {(0, CLOCK): [0] + none[1:]}
        for index, carrier in enumerate(self.plan.taken):
            starts[0, carrier] = none[:index + 1] + [0] + none[index + 2:]
        for place, op in enumerate(self.plan.ops):
            for carrier, allowance in births_of(op, self.callee_types):
                for _, goal in self.plan.ways[place]:
                    counts = list(starts.get((goal, carrier), none))
                    counts[0] = max(counts[0], LONGEST_KEEP - allowance)
                    starts[goal, carrier] = counts
        return starts

    def _ways_from(self, starts):
        """The ways from these nodes and from all that can be reached."""
        moves = [moves_of(op, self.callee_types) for op in self.plan.ops]
        ways = {}
        waiting = list(starts)
        while waiting:
            node = waiting.pop()
            if node in ways:
                continue
            place, carrier = node
            ways[node] = []
            if place < self.plan.exit_place:
                ends = [(target, more) for source, target, more in moves[place] if source == carrier]
                ends.extend(self._staying(self.plan.ops[place], carrier))
                ways[node] = [((goal, end), ticks) for _, goal in self.plan.ways[place] for end, ticks in ends]
                waiting.extend([goal for goal, _ in ways[node]])
        return ways

    def _staying(self, op, carrier):
        """The carrier itself with the ticks that count, if it stays as it is."""
        if carrier == CLOCK:
            return [(carrier, ticks_of_op(op, self.callee_types))]
        if not stays(op, carrier):
            return []
        return [(carrier, 0 if carrier in self.plan.colds else ticks_of_op(op, self.callee_types))]

    def _composed_type(self):
        """The life type that comes of these chains."""
        plan = self.plan
        born = -1
        needs = [-1] * len(plan.taken)
        for place, op in enumerate(plan.ops):
            for carrier, later in reads_of(op, self.callee_types):
                counts = [count + later if count >= 0 else -1 for count in self.counts[place, carrier]]
                born = max(born, counts[0])
                needs = [min(max(need, count), MOST) for need, count in zip(needs, counts[1:])]
        if born > LONGEST_KEEP or any([self.callee_types[callee].sours for callee in plan.called_names()]):
            return LifeType.never(plan.taken_keeps, len(plan.given))
        rows = [self.row_at(plan.exit_place, carrier) for carrier in plan.given]
        return LifeType(plan.taken_keeps, needs, self.late_at(plan.exit_place), rows)

    def late_at(self, place):
        """The latest tick at which a run comes to a place."""
        return self.counts[place, CLOCK][0]

    def row_at(self, place, carrier):
        """The bound for what lies in a carrier at a place."""
        counts = self.counts[place, carrier]
        left = None if counts[0] < 0 else LONGEST_KEEP - counts[0]
        return LifeRow(left, [None if count < 0 else count for count in counts[1:]])

    def table(self):
        """A table that holds for the type that comes of these chains."""
        plan = self.plan
        places = range(plan.exit_place + 1)
        carriers = carriers_with_rows(plan, self.callee_types)
        rows = [tuple([(one, self.row_at(place, one)) for one in carriers[place]]) for place in places]
        return (self.composed.needs, tuple([self.late_at(place) for place in places]), tuple(rows))


def carriers_with_rows(plan, types):
    """For each place the carriers that can have rows there, as they get some on all ways."""
    found = [None] * (plan.exit_place + 1)
    found[0] = {carrier: True for carrier in plan.taken}
    waiting = [0]
    while waiting:
        place = waiting.pop()
        if place == plan.exit_place:
            continue
        behind = carriers_behind(plan.ops[place], types, found[place])
        for _, goal in plan.ways[place]:
            known = found[goal]
            kept = behind if known is None else {carrier: True for carrier in known if carrier in behind}
            if known is None or len(kept) < len(known):
                found[goal] = kept
                waiting.append(goal)
    return found


def plans_within(program, name):
    """A dict of the plans of a procedure and of all that it calls, directly or through others, in their order."""
    return {one: Plan(program, one) for one in needed_names(program, (name,))}


def exact_chains(program, name):
    """A dict from the names of a procedure and of all that it calls to their chains, by exact types."""
    types = {}
    chains = {}
    plans = plans_within(program, name)
    for one in plans:
        chains[one] = Chains(plans[one], types)
        types[one] = chains[one].composed
    return chains
