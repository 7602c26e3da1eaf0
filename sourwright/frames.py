"""Calls that are open in a run, and what single steps do to what they hold."""


class Call:
    """An open call: its plan, and how the run stood when it began, or None for the start."""

    def __init__(self, plan, outer):
        self.plan = plan
        self.name = plan.name
        self.ops = plan.ops
        self.exit_place = plan.exit_place
        self.outer = outer

    def filled_names(self, held):
        """The names that are filled; what an end of code fills is none of them."""
        if not self.plan.is_code:
            return list(held)
        return [carrier for carrier in held if carrier not in self.plan.given]


def held_behind(op, held, end):
    """What the names hold behind a mix, scale, dish, copy or end, which ends at this tick."""
    after = dict(held)
    word = op.word
    if word == "end":
        for carrier, cup in zip(op.fills, op.wants):
            after[carrier] = held[cup]
        return after
    worth, last = held[op.wants[0]]
    if word == "scale":
        worth = worth * op.told[3]
    elif word == "dish":
        last = end + op.allowance
    elif word == "mix":
        other, other_last = held[op.wants[1]]
        worth = worth + other if op.told[2] == "+" else worth - other
        last = min(last, other_last)
    after[op.fills[0]] = (worth, last)
    return after


def without(held, carrier):
    """What is held but for this carrier."""
    return {other: held[other] for other in held if other != carrier}
