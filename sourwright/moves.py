"""Searching for the fewest moves between the steps of straight procedures, so that nothing is read sour."""

from heapq import heappop, heappush

from sourwright.steps import row_with_spots

# What stands for a cup with nothing of use in it and for an empty cold place, and for a cold place that is filled with
# something of no use.
NOTHING = ("", -1)
SPOILT = ("-", -1)


class Stand:
    """What lies where ahead of the step at a place: pairs of a name and a life in cups, of a name and a rest on colds.

    `moves` counts those that were made so far; `row` led here from the stand `before`.
    """

    def __init__(self, place, cups, colds, moves, before, row):
        self.place = place
        self.cups = cups
        self.colds = colds
        self.moves = moves
        self.before = before
        self.row = row

    def cup_of(self, name):
        """The cup in which a name has the most life, or None."""
        found = None
        for cup, (held, life) in enumerate(self.cups):
            if held == name and (found is None or life > self.cups[found][1]):
                found = cup
        return found

    def count_of(self, name):
        """In how many places a name lies."""
        return len([held for held, _ in self.cups + self.colds if held == name])

    def entry(self):
        """The place, and the pairs of a name and where it lies."""
        pairs = [(name, f"c{cup}") for cup, (name, _) in enumerate(self.cups) if name != ""]
        pairs.extend([(name, f"p{cold}") for cold, (name, _) in enumerate(self.colds) if name not in ("", "-")])
        return (self.place, tuple(pairs))


class Search:
    """Goes through the stands in order of the moves made so far and those that have to come yet at least.

    A stand is left out if there was one at the same place with no more moves and the same names with no less life,
    whichever cups and cold places they lie in: what can be done from the one can be done from the other.
    """

    def __init__(self, straight, cold):
        self.straight = straight
        self.cold = cold
        self.seen = [{} for _ in range(straight.exit_place + 1)]
        self.stands = []
        self.queue = []

    def first_done(self, lives, cups):
        """A stand at the exit with the fewest moves, with all results in cups, or None."""
        taken = self.straight.plan.taken
        held = tuple(zip(taken, lives)) + (NOTHING,) * (cups - len(taken))
        self.consider(Stand(0, held, (NOTHING,) * self.cold, 0, None, None))
        while self.queue:
            _, _, number = heappop(self.queue)
            stand = self.stands[number]
            if stand.place < self.straight.exit_place:
                self.carry_out(stand)
            elif all([stand.cup_of(result) is not None for result in self.straight.plan.given]):
                return stand
            self.add_moves(stand)
        return None

    def consider(self, stand):
        """Takes a stand in, if something may come of it that does not come of others."""
        self.drop_useless(stand)
        to_come = self.moves_to_come(stand)
        if to_come is not None and self.is_better(stand):
            heappush(self.queue, (stand.moves + to_come, -stand.place, len(self.stands)))
            self.stands.append(stand)

    def is_useful(self, place, pair):
        """Whether what lies in a cup is wanted from a place on, and not sour if it is to be read."""
        name, life = pair
        return name in self.straight.wanted[place] and (life >= 0 or name not in self.straight.read_later[place])

    def drop_useless(self, stand):
        """Forgets what is of no use."""
        wanted = self.straight.wanted[stand.place]
        stand.cups = tuple([pair if self.is_useful(stand.place, pair) else NOTHING for pair in stand.cups])
        stand.colds = tuple([pair if pair[0] in wanted or pair == NOTHING else SPOILT for pair in stand.colds])

    def moves_to_come(self, stand):
        """How many moves have to come yet at least; None if no moves can help.

        They cannot if a name that is wanted is lost, or if more names than there are cold places have to lie on these.
        What lies in no cup has to be taken, and what would be sour at its last read has to rest before.
        """
        lives = greatest_numbers(stand.cups)
        rests = greatest_numbers(stand.colds)
        last_reads = self.straight.last_reads[stand.place]
        count = 0
        for name in self.straight.wanted[stand.place]:
            if name not in lives and name not in rests:
                return None
            if name not in lives:
                count += 1
            elif name in last_reads and lives[name] < last_reads[name]:
                count += 1 if name in rests else 2
        for ticks, names in self.straight.passing[stand.place]:
            if len([name for name in names if max(lives.get(name, -1), rests.get(name, -1)) < ticks]) > self.cold:
                return None
        return count

    def is_better(self, stand):
        """Whether no stand before was as good; then this one is remembered."""
        pairs = sorted(stand.cups) + sorted(stand.colds)
        names = tuple([name for name, _ in pairs])
        # All lives in one number; taken from one with a bit more for each, it leaves these bits where none is greater.
        lives = guards = 0
        for _, life in pairs:
            lives = lives * 128 + life + 1
            guards = guards * 128 + 64
        elder = self.seen[stand.place].setdefault(names, [])
        for others, moves in elder:
            if moves <= stand.moves and (others - lives) & guards == guards:
                return False
        elder.append((lives + guards, stand.moves))
        return True

    def carry_out(self, stand):
        """Adds what follows the next step, if all that it reads is good."""
        op = self.straight.plan.ops[stand.place]
        sources = tuple([stand.cup_of(name) for name in op.wants])
        if None in sources or any([stand.cups[cup][1] < 0 for cup in sources]):
            return
        cups = aged(stand.cups, op.ticks)
        if not op.fills:
            self.consider(Stand(stand.place + 1, cups, stand.colds, stand.moves, stand, op.told))
            return
        made = op.fills[0]
        life = op.allowance
        if life is None:
            life = min([cups[cup][1] for cup in sources])
        cups = tuple([NOTHING if pair[0] == made else pair for pair in cups])
        colds = tuple([SPOILT if pair[0] == made else pair for pair in stand.colds])
        for cup in self.targets(stand.place + 1, cups):
            row = row_with_spots(op.told, (cup,), sources)
            held = replaced(cups, cup, (made, life))
            self.consider(Stand(stand.place + 1, held, colds, stand.moves, stand, row))

    def add_moves(self, stand):
        """Adds what follows each move."""
        tried = set()
        for cup, pair in enumerate(stand.cups):
            if pair != NOTHING and pair not in tried:
                tried.add(pair)
                self.add_copies(stand, cup)
                self.add_put(stand, cup)
        for cold, pair in enumerate(stand.colds):
            if pair != NOTHING:
                self.add_takes(stand, cold)

    def add_copies(self, stand, source):
        """Adds what follows a copy of what lies in a cup, if there are more uses for it than places where it lies."""
        name, _ = stand.cups[source]
        if self.cold == 0 or stand.count_of(name) >= self.straight.use_counts[stand.place].get(name, 0):
            return
        cups = aged(stand.cups, 1)
        for cup in self.targets(stand.place, stand.cups):
            if cup != source:
                self.add_move(stand, replaced(cups, cup, cups[source]), stand.colds, ("copy", cup, source))

    def add_put(self, stand, cup):
        """Adds what follows when what lies in a cup is put on a cold place."""
        pair = stand.cups[cup]
        if pair[1] >= 0 and NOTHING in stand.colds:
            cold = stand.colds.index(NOTHING)
            cups = replaced(aged(stand.cups, 1), cup, NOTHING)
            self.add_move(stand, cups, replaced(stand.colds, cold, pair), ("put", cold, cup))

    def add_takes(self, stand, cold):
        """Adds what follows when what lies on a cold place is taken."""
        cups = aged(stand.cups, 1)
        colds = replaced(stand.colds, cold, NOTHING)
        for cup in self.targets(stand.place, stand.cups):
            self.add_move(stand, replaced(cups, cup, stand.colds[cold]), colds, ("take", cup, cold))

    def add_move(self, stand, cups, colds, row):
        """Adds what follows a move."""
        self.consider(Stand(stand.place, cups, colds, stand.moves + 1, stand, row))

    def targets(self, place, cups):
        """The cups to fill: one with nothing of use from a place on, or if there is none, any of them."""
        for cup, pair in enumerate(cups):
            if not self.is_useful(place, pair):
                return [cup]
        return list(range(len(cups)))


def greatest_numbers(pairs):
    """A dict from the names in these pairs to their greatest numbers."""
    found = {}
    for name, number in pairs:
        if name not in found or found[name] < number:
            found[name] = number
    return found


def aged(cups, ticks):
    """What lies in cups so many ticks later."""
    return tuple([(name, max(life - ticks, -1)) for name, life in cups])


def replaced(pairs, at, pair):
    """The pairs with another one at this index."""
    return pairs[:at] + (pair,) + pairs[at + 1:]
