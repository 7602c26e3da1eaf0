"""Calls that are open in a run, and what single steps do to them."""


class Frame:
    """An open call: its plan, the next place, or for the call of another one the place of that, and what is filled.

    `held` has the worth and last tick of each filled name, `stored` the worth and rest of each filled shelf. Frames
    are not changed once a run has them.
    """

    def __init__(self, plan, place, held, stored):
        self.plan = plan
        self.place = place
        self.held = held
        self.stored = stored

    def next_op(self):
        """The operation at the next place, or None at the exit."""
        if self.place == self.plan.exit_place:
            return None
        return self.plan.ops[self.place]

    def gone_on(self, answer):
        """The frame at the place behind this one, with the same things."""
        goal = [goal for given, goal in self.plan.ways[self.place] if given == answer][0]
        return Frame(self.plan, goal, dict(self.held), dict(self.stored))

    def first_sour(self, tick):
        """The first carrier that the next step would read sour at this tick, or None."""
        for carrier in self.next_op().reads:
            if self.held[carrier][1] < tick:
                return carrier
        return None

    def results_held(self):
        """The pairs of a worth and a last tick of the results, at the exit."""
        return [self.held[carrier] for carrier in self.plan.given]

    def filled_names(self):
        """The names that are filled; what an end of code fills is none of them."""
        return [carrier for carrier in self.held if not self.plan.is_code or carrier not in self.plan.given]


def called_frame(frame, plan):
    """The frame of the callee, with this plan, that the next step of a frame calls."""
    args = frame.next_op().wants
    return Frame(plan, 0, {taken: frame.held[arg] for taken, arg in zip(plan.taken, args)}, {})


def returned_frame(frame, callee):
    """The frame behind its call, with what the frame of the callee gives."""
    after = frame.gone_on(None)
    for carrier, pair in zip(frame.next_op().fills, callee.results_held()):
        after.held[carrier] = pair
    return after


def carried_out(frame, tick, worth):
    """The frame behind its next step, an ordinary one that begins at this tick; `worth` is that of a new value."""
    op = frame.next_op()
    after = frame.gone_on(None)
    if op.word == "put":
        value, last = after.held.pop(op.wants[0])
        after.stored[op.fills[0]] = (value, last - tick)
    elif op.word == "take":
        value, rest = after.stored.pop(op.wants[0])
        after.held[op.fills[0]] = (value, tick + op.ticks + rest)
    elif op.word == "end":
        for carrier, cup in zip(op.fills, op.wants):
            after.held[carrier] = frame.held[cup]
    elif op.word not in ("wait", "jump"):
        after.held[op.fills[0]] = made_by(op, [frame.held[carrier] for carrier in op.wants], tick, worth)
    return after


def made_by(op, pairs, tick, worth):
    """The worth and last tick of what an operation makes of these operands; it begins at this tick."""
    fresh_last = tick + op.ticks + op.allowance if op.allowance is not None else None
    if op.word == "get":
        return (worth, fresh_last)
    value, last = pairs[0]
    if op.word == "dish":
        return (value, fresh_last)
    if op.word == "scale":
        return (value * op.told[3], last)
    if op.word == "mix":
        other, other_last = pairs[1]
        return (value + other if op.told[2] == "+" else value - other, min(last, other_last))
    return (value, last)
