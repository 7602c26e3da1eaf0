"""Programs as code for a machine with few cups and cold places."""

from sourwright.code import CodeProgram
from sourwright.errors import NoRoom
from sourwright.wanted import Wanted, fewest_shared

# Where names and shelves stand in most steps.
CARRIERS = {
    "mix": (1, 3, 4), "scale": (1, 2), "dish": (1, 3), "copy": (1, 2), "put": (1, 2), "take": (1, 2), "wait": (),
}


def fewest_cups(program, name):
    """The least number of cups with which each name of a procedure can have one cup throughout."""
    return Coder(program[name]).many_cups()


def compiled(program, *, cups=8, cold=3):
    """A code program that does what a program does, and a location table for each procedure."""
    procedures = []
    tables = []
    for name, params, _, _ in program.procedures:
        coder = Coder(program[name])
        needed = coder.many_cups()
        if needed > cups:
            raise NoRoom(name, needed)
        if len(coder.procedure.shelves) > cold:
            raise NoRoom(name, 0)
        rows, entries = coder.rows_with_entries()
        procedures.append((name, tuple([kind for _, kind in params]), rows))
        tables.append(entries)
    code = CodeProgram(program.kinds, program.wells, program.dishes, tuple(procedures))
    return (code, tuple(tables))


class Coder:
    """Writes a row for each step of a procedure, in order of places, and jumps where the way leads elsewhere.

    Each name has one cup throughout, and each shelf one cold place.
    """

    def __init__(self, procedure):
        self.procedure = procedure
        self.wanted = Wanted(procedure)
        self.cups = fewest_shared(self.wanted)

    def many_cups(self):
        """The number of cups that names have."""
        return 1 + max(list(self.cups.values()), default=-1)

    def rows_with_entries(self):
        """The rows, and the entries of their location table."""
        spots = dict(self.cups)
        pairs = {name: (name, f"c{cup}") for name, cup in self.cups.items()}
        for cold, shelf in enumerate(self.procedure.shelves):
            spots[shelf] = cold
            pairs[shelf] = (shelf, f"p{cold}")
        entries = [(place, tuple(wanted.values())) for place, wanted in enumerate(self.wanted.by_place(pairs))]
        starts = self.rows_of_places()
        rows = []
        told = []
        for place, step in enumerate(self.wanted.steps):
            goals = self.wanted.goals[place]
            rows.append(row_of(step, place, spots) if len(goals) == 1 else ("ask", starts[goals[1]]))
            told.append(entries[place])
            if goals[0] != place + 1:
                rows.append(("jump", starts[goals[0]]))
                told.append(entries[goals[0]])
        rows.append(("end", tuple([spots[result] for result in self.procedure.results])))
        told.append(entries[-1])
        return (tuple(rows), tuple(told))

    def rows_of_places(self):
        """The row of each place and of the exit, as there is a jump where the way does not go on to the next place."""
        starts = []
        row = 0
        for place, goals in enumerate(self.wanted.goals):
            starts.append(row)
            row += 1 if goals[0] == place + 1 else 2
        starts.append(row)
        return starts


def row_of(step, place, spots):
    """The row of a step at a place that does not ask, with these numbers of its names and shelves."""
    word = step[0]
    if word == "call":
        _, callee, args, filled = step
        return (word, callee, tuple([spots[arg] for arg in args]), tuple([spots[name] for name in filled]))
    if word == "get":
        return (word, spots[step[1]], step[2], place)
    items = list(step)
    for at in CARRIERS[word]:
        items[at] = spots[items[at]]
    return tuple(items)
