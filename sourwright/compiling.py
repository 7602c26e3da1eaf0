"""Programs as code for a machine with few cups and cold places."""

from sourwright.code import CodeProgram
from sourwright.errors import NoRoom
from sourwright.plans import Plan
from sourwright.steps import row_with_spots
from sourwright.wanted import clashes_of, fewest_shared, wanted_by_place


def fewest_cups(program, name):
    """The least number of cups with which each name of a procedure can have one cup throughout."""
    cups = shared_cups(program, name)
    return 1 + max([cups[one] for one in cups], default=-1)


def shared_cups(program, name):
    """A dict from the names of a procedure to cups, as few as can be."""
    names = program[name].names
    plan = Plan(program, name)
    return fewest_shared(clashes_of(plan, names), plan.taken)


def compiled(program, *, cups=8, cold=3):
    """A code program that does what a program does, and a location table for each procedure."""
    procedures = []
    tables = []
    for given in program.procedures:
        name = given[0]
        needed = fewest_cups(program, name)
        if needed > cups:
            raise NoRoom(name, needed)
        if len(program[name].shelves) > cold:
            raise NoRoom(name, 0)
        coder = Coder(program, name)
        procedures.append((name, coder.plan.taken_kinds, coder.rows_told()))
        tables.append(tuple(coder.entries))
    code = CodeProgram(program.kinds, program.wells, program.dishes, tuple(procedures))
    return (code, tuple(tables))


class Coder:
    """Writes a row for each step of a procedure, in order of places, and jumps where the way leads elsewhere.

    Each name has one cup throughout, and each shelf one cold place. `written` rows still have places for their targets;
    `row_by_place` tells which rows these are. `entries` make up the location table.
    """

    def __init__(self, program, name):
        self.plan = Plan(program, name)
        self.cups = shared_cups(program, name)
        self.colds = {shelf: cold for cold, shelf in enumerate(program[name].shelves)}
        self.wanted = wanted_by_place(self.plan)
        self.written = []
        self.entries = []
        self.row_by_place = []
        for place, op in enumerate(self.plan.ops):
            self.add_step(place, op)
        self.add_row(self.plan.exit_place, ("end", self.spots_of(self.plan.given)))

    def add_step(self, place, op):
        """Adds the row of a step, and a jump where the way does not go on to the next place."""
        self.row_by_place.append(len(self.written))
        goals = [goal for _, goal in self.plan.ways[place]]
        if op.word == "ask":
            self.add_row(place, ("ask", goals[1]))
        else:
            self.add_row(place, row_with_spots(op.told, self.spots_of(op.fills), self.spots_of(op.wants)))
        if goals[0] != place + 1:
            self.add_row(goals[0], ("jump", goals[0]))

    def add_row(self, place, row):
        """Adds a row with the entry that tells where all that is wanted at this place lies."""
        self.written.append(row)
        self.entries.append((place, tuple([(carrier, self.where(carrier)) for carrier in self.wanted[place]])))

    def where(self, carrier):
        """The cup of a name, or the cold place of a shelf, as a string."""
        return f"c{self.cups[carrier]}" if carrier in self.cups else f"p{self.colds[carrier]}"

    def spots_of(self, carriers):
        """The numbers of the cups and cold places of these names and shelves."""
        return tuple([self.cups[one] if one in self.cups else self.colds[one] for one in carriers])

    def rows_told(self):
        """The rows, with rows as their targets."""
        starts = self.row_by_place + [len(self.written) - 1]
        return tuple([(row[0], starts[row[1]]) if row[0] in ("ask", "jump") else row for row in self.written])
