"""Whether all that steps and rows work on is filled, whatever way leads there.

What a carrier can be at a place is a number with a bit for each of these: `EMPTY`, and `FULL` or, in code, a bit for
each kind. (The kinds of text do not depend on ways, and are checked when a program is made.)
"""

from sourwright.code import CodeProgram
from sourwright.errors import Unfilled
from sourwright.plans import Plan

EMPTY = 1
FULL = 2
# In code, what one of these fills has the kind of an operand, or is empty as that is.
HANDING = ("mix", "scale", "copy", "put", "take", "end")


class Sorts:
    """The bits of the kinds of a program, and of what its checked procedures take and give."""

    def __init__(self, program):
        self.program = program
        self.is_code = isinstance(program, CodeProgram)
        self.bits = {name: FULL << at if self.is_code else FULL for at, (name, _) in enumerate(program.kinds)}
        self.any_kind = sum(set_bits(self.bits))
        # Of code alone; in text all that is handed over is filled.
        self.taken_bits = {}
        self.given_bits = {}

    def changes_of(self, op):
        """For each carrier that an operation changes, the carrier whose state it gets, or None, and else its state."""
        changes = [(carrier, None, EMPTY) for carrier in op.empties]
        if self.is_code and op.word in HANDING:
            return changes + [(filled, source, EMPTY) for filled, source in zip(op.fills, op.wants)]
        return changes + [(filled, None, bit) for filled, bit in zip(op.fills, self.made_by(op))]

    def made_by(self, op):
        """The bits of what an operation makes."""
        if op.word == "get":
            return (self.bits[self.program.well_of(op.told[2])[0]],)
        if op.word == "dish":
            return (self.bits[self.program.dish_of(op.told[2])[1]],)
        if op.word == "call" and self.is_code:
            return self.given_bits[op.told[1]]
        return (FULL,) * len(op.fills)


class States:
    """What the carriers of a plan can be at each place, over all ways."""

    def __init__(self, plan, sorts):
        self.plan = plan
        self.sorts = sorts
        self.start = {carrier: EMPTY for carrier in plan.carriers()}
        for carrier, kind in zip(plan.taken, plan.taken_kinds):
            self.start[carrier] = sorts.bits[kind]
        self.changes = [sorts.changes_of(op) for op in plan.ops]
        self.ended = None
        self.found = [None] * (plan.exit_place + 1)
        self.found[0] = self.start
        waiting = [0]
        while waiting:
            place = waiting.pop()
            if place < plan.exit_place:
                waiting.extend(self.passed_on(place))

    def passed_on(self, place):
        """Hands what is known at a place on to the places behind it; returns those at which more is known then."""
        before = self.found[place]
        after = dict(before)
        for carrier, source, state in self.changes[place]:
            after[carrier] = state if source is None else before[source]
        more = []
        for _, goal in self.plan.ways[place]:
            known = self.found[goal]
            merged = after
            if known is not None:
                merged = {carrier: known[carrier] | after[carrier] for carrier in known}
            if merged != known:
                self.found[goal] = merged
                more.append(goal)
        return more

    def fault_at(self, place):
        """The first carrier in a wrong state at a place, with its wrong states, or None.

        There are no wrong states where only different ways bring different kinds.
        """
        found = self.found[place]
        for carrier, right in self.wanted_at(place):
            wrong = found[carrier] & ~right
            if wrong or found[carrier] & (found[carrier] - 1):
                return (carrier, wrong)
        if place < self.plan.exit_place and self.plan.ops[place].word == "end" and self.ended is None:
            self.ended = tuple([found[carrier] for carrier in self.plan.ops[place].wants])
        return None

    def wanted_at(self, place):
        """The pairs of a carrier and the states that are right for it at a place, in order."""
        if place == self.plan.exit_place:
            return [] if self.plan.is_code else [(result, FULL) for result in self.plan.given]
        op = self.plan.ops[place]
        anything = [(carrier, self.sorts.any_kind) for carrier in op.wants]
        if op.word == "put":
            return [(op.fills[0], EMPTY)] + anything
        if op.word == "mix":
            return [anything[0], (op.wants[1], self.found[place][op.wants[0]])]
        if op.word == "dish":
            return [(op.wants[0], self.sorts.bits[self.sorts.program.dish_of(op.told[2])[0]])]
        if op.word == "call" and self.plan.is_code:
            return list(zip(op.wants, self.sorts.taken_bits[op.told[1]]))
        if op.word == "end" and self.ended is not None:
            return list(zip(op.wants, self.ended))
        return anything


def check_book(book):
    """Raises for the first place of a procedure at which a carrier is in a wrong state."""
    if book.unsure:
        sorts = Sorts(book)
        for name in book.unsure:
            check_procedure(sorts, name)


def check_procedure(sorts, name):
    """Raises for the first place of a procedure at which a carrier is in a wrong state."""
    plan = Plan(sorts.program, name)
    states = States(plan, sorts)
    for place in range(plan.exit_place + 1):
        fault = states.fault_at(place)
        if fault is not None:
            carrier, wrong = fault
            raise Unfilled(name, place, carrier, fewest_answers(states, place, carrier, wrong))
    if plan.is_code:
        sorts.taken_bits[name] = tuple([sorts.bits[kind] for kind in plan.taken_kinds])
        sorts.given_bits[name] = states.ended


def set_bits(bits):
    """The different bits among those of all kinds."""
    return list({bits[kind]: True for kind in bits})


def fewest_answers(states, place, carrier, wrong):
    """The answers along a way with the fewest of them, on which the carrier comes to this place in a wrong state.

    Without wrong states it is any way to the place. What lies in a carrier is followed from where it came to be so;
    a node is a place, a carrier or an empty word for none, and its state.
    """
    came = {}
    waiting = [((0, "", 0), None, None)]
    waiting.extend([((0, one, states.start[one]), None, None) for one in states.start])
    while True:
        later = []
        while waiting:
            node, before, answer = waiting.pop()
            if node in came:
                continue
            came[node] = (before, answer)
            if node[0] == place and (node[1] == carrier and node[2] & wrong or wrong == 0 and node[1] == ""):
                return answers_along(came, node)
            if node[0] < states.plan.exit_place:
                for asked, following in nodes_behind(states, node):
                    if asked is None:
                        waiting.append((following, node, asked))
                    else:
                        later.append((following, node, asked))
        waiting = later


def nodes_behind(states, node):
    """The pairs of an answer and a node that follow a node."""
    place, carrier, state = node
    changes = states.changes[place]
    if carrier == "":
        ends = [("", 0)] + [(changed, made) for changed, source, made in changes if source is None]
    else:
        ends = [(changed, state) for changed, source, _ in changes if source == carrier]
        if carrier not in [changed for changed, _, _ in changes]:
            ends.append((carrier, state))
    return [(answer, (goal, one, made)) for answer, goal in states.plan.ways[place] for one, made in ends]


def answers_along(came, node):
    """The answers on the way that came to a node."""
    answers = []
    while node is not None:
        node, answer = came[node]
        if answer is not None:
            answers.append(answer)
    return tuple(answers[::-1])
