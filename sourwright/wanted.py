"""Which carriers are wanted at which places, and which names cannot share a cup."""

from sourwright.edges import goals_of
from sourwright.steps import operands_of, results_of


class Wanted:
    """Which carriers some way from a place uses before it fills them, for the places of a procedure and the exit.

    Carriers have bits, those of the names first; `bits` tells what is wanted at each place, `used` and `made` what its
    step works on. `grown` are the places at which more came to be wanted, in the order in which this was found.
    """

    def __init__(self, procedure):
        self.procedure = procedure
        self.steps = procedure.steps_told()
        self.goals = goals_of(procedure)
        self.named = procedure.names
        self.bit_by_carrier = {one: 1 << at for at, one in enumerate(self.named + procedure.shelves)}
        self.used = []
        self.made = []
        for step in self.steps:
            self.used.append(self.bits_of(operands_of(step)))
            self.made.append(self.bits_of(results_of(step)))
        self.bits = [0] * len(self.steps) + [self.bits_of(procedure.results)]
        self.grown = []
        heads = {goal: True for place, goals in enumerate(self.goals) for goal in goals if goal <= place}
        is_more = True
        while is_more:
            is_more = self.look_back(heads)

    def bits_of(self, carriers):
        """The bits of carriers."""
        bits = 0
        for carrier in carriers:
            bits |= self.bit_by_carrier[carrier]
        return bits

    def look_back(self, heads):
        """Looks at all places once, from the last one; whether there can be more.

        There can be if more came to be wanted at one of the places, the keys of a dict, to which ways lead back.
        """
        is_more = False
        bits = self.bits
        for place in range(len(self.steps) - 1, -1, -1):
            behind = 0
            for goal in self.goals[place]:
                behind |= bits[goal]
            ahead = self.used[place] | behind & ~self.made[place]
            if ahead != bits[place]:
                bits[place] = ahead
                self.grown.append(place)
                is_more = is_more or place in heads
        return is_more

    def by_place(self, told):
        """For each place and the exit a dict from the carriers that are wanted there to what a dict tells of them."""
        wanted = [{} for _ in self.steps]
        wanted.append({result: told[result] for result in self.procedure.results})
        for place in self.grown:
            step = self.steps[place]
            wants = operands_of(step)
            ahead = {}
            for carrier in wants:
                ahead[carrier] = told[carrier]
            for goal in self.goals[place]:
                ahead.update(wanted[goal])
            for carrier in results_of(step):
                if carrier not in wants:
                    ahead.pop(carrier, None)
            wanted[place] = ahead
        return wanted

    def clashes(self):
        """For each name, by index, the bits of those that it clashes with, and how many names all clash at least.

        A name can have its own bit, too.
        """
        many = len(self.named)
        names = (1 << many) - 1
        # All names of one of these clash.
        together = {self.bits_of([param for param, _ in self.procedure.params]): True}
        for place, goals in enumerate(self.goals):
            for goal in goals:
                together[(self.made[place] | self.bits[goal]) & names] = True
        found = [0] * many
        most = 0
        for bits in together:
            indexes = [at for at in range(many) if bits >> at & 1]
            for at in indexes:
                found[at] |= bits
            most = max(most, len(indexes))
        return (found, most)


def fewest_shared(wanted):
    """A dict from the names of a procedure to the cups they have if cups are as few as can be.

    Parameters have the first ones in order.
    """
    names = wanted.named
    clashes, most = wanted.clashes()
    cups = {param: cup for cup, (param, _) in enumerate(wanted.procedure.params)}
    order = [at for at, name in enumerate(names) if name not in cups]
    taken = [wanted.bit_by_carrier[param] for param in cups]
    for many in range(most, len(names) + 1):
        members = list(taken)
        if share_out(clashes, order, 0, many, members):
            for at in order:
                cups[names[at]] = [bits >> at & 1 for bits in members].index(1)
            return cups
    return cups


def share_out(clashes, order, at, many, members):
    """Gives the names from this one of the order on some of so many cups, if that can be done; otherwise none to them.

    `members` has the bits of the names of each cup that has some.
    """
    if at == len(order):
        return True
    name = order[at]
    clash = clashes[name]
    for cup, bits in enumerate(list(members)):
        if not clash & bits:
            members[cup] = bits | (1 << name)
            if share_out(clashes, order, at + 1, many, members):
                return True
            members[cup] = bits
    # Of the cups that nothing has yet, one is as good as another.
    if len(members) < many:
        members.append(1 << name)
        if share_out(clashes, order, at + 1, many, members):
            return True
        members.pop()
    return False
