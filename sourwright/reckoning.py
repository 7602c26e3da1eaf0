"""Life types of procedures: of those that stand in steps stretch by stretch, of code by all chains."""

from sourwright.chains import Chains
from sourwright.code import CodeProcedure
from sourwright.lifetypes import LifeType
from sourwright.longest import MOST
from sourwright.plans import Plan, needed_names
from sourwright.rows import LifeRow
from sourwright.stretches import BIRTH, LONGEST_KEEP, Stretch, greatest


def exact_types(program, names):
    """A dict from these names, and those of all procedures that they call, to exact types."""
    types = {}
    for name in needed_names(program, names):
        types[name] = type_by(program, name, types)
    return types


def type_by(program, name, types):
    """The life type of a procedure by the types given for those that it calls."""
    procedure = program[name]
    if isinstance(procedure, CodeProcedure):
        return Chains(Plan(program, name), types).composed
    return Reckoner(program, procedure, types).whole_type()


class Reckoner:
    """Follows the body of a procedure, with each call as one step by the types given for callees."""

    def __init__(self, program, procedure, types):
        self.program = program
        self.whole_body = procedure.body
        self.names_taken = [param for param, _ in procedure.params]
        self.given = procedure.results
        self.taken_keeps = tuple([program.keep_of(kind) for _, kind in procedure.params])
        self.callee_types = types
        self.timeless = {shelf: True for shelf in procedure.shelves}
        self.timeless[BIRTH] = True
        self.is_souring = False

    def whole_type(self):
        """The type of the procedure."""
        whole = self.along(self.whole_body, 0)
        if self.is_souring or whole.latest.get(BIRTH, 0) > LONGEST_KEEP:
            return LifeType.never(self.taken_keeps, len(self.given))
        needs = [min(whole.latest.get(param, -1), MOST) for param in self.names_taken]
        rows = [row_of(whole.sources_after(result, 0), self.names_taken) for result in self.given]
        return LifeType(self.taken_keeps, needs, min(whole.ticks, MOST), rows)

    def along(self, body, ticks):
        """The stretch along a body, which begins so many ticks later."""
        stretch = Stretch(self.timeless, ticks)
        for step in body:
            word = step[0]
            if word == "wait":
                stretch.ticks += step[1]
            elif word == "get":
                kind, more = self.program.well_of(step[2])
                stretch.ticks += more
                stretch.fill(step[1], self.program.keep_of(kind))
            elif word == "dish":
                _, kind, more = self.program.dish_of(step[2])
                stretch.note_read(step[3], 0)
                stretch.ticks += more
                stretch.fill(step[1], self.program.keep_of(kind))
            elif word in ("if", "while"):
                self.add_asking(stretch, step)
            elif word == "call":
                self.add_call(stretch, step)
            else:
                add_handing(stretch, step)
        return stretch

    def add_asking(self, stretch, step):
        """Goes on along an `if` or `while`."""
        if step[0] == "if":
            stretch.ticks += 1
            stretch.go_along(self.along(step[1], 0).joined(self.along(step[2], 0)))
        else:
            stretch.go_along(self.along(step[1], 1).repeated())
            stretch.ticks += 1

    def add_call(self, stretch, step):
        """Goes on along a call."""
        _, callee, args, filled = step
        life_type = self.callee_types[callee]
        if life_type.sours:
            self.is_souring = True
        for arg, need in zip(args, life_type.needs):
            if need >= 0:
                stretch.note_read(arg, need)
        call = Stretch(self.timeless, life_type.took + 1)
        for name, row in zip(filled, life_type.rows):
            left = -1 if row is None else row.left
            if left is not None:
                call.fill(name, max(left - 1, -1))
            if row is not None:
                # One name may be handed over more than once.
                for arg, lost in zip(args, row.lost):
                    if lost is not None:
                        call.held[name] = greatest(call.held.get(name, {}), {arg: lost + 1 - call.ticks})
        stretch.go_along(call)


def add_handing(stretch, step):
    """Goes on along a mix, scale, copy, put or take."""
    word, target = step[:2]
    if word == "mix":
        stretch.note_read(step[3], 0)
        stretch.note_read(step[4], 0)
        stretch.held[target] = greatest(stretch.sources_of(step[3]), stretch.sources_of(step[4]))
        stretch.ticks += 1
        return
    source = step[2]
    if word in ("scale", "put"):
        stretch.note_read(source, 0)
    if word == "take":
        stretch.ticks += 1
        stretch.held[target] = stretch.handed_on(target, {source: 0})
    else:
        stretch.held[target] = stretch.handed_on(target, {source: 0})
        stretch.ticks += 1
    if word in ("put", "take"):
        stretch.held[source] = {}


def row_of(counts, params):
    """The bound for a result with these greatest counts."""
    left = None if BIRTH not in counts else LONGEST_KEEP - min(counts[BIRTH], MOST)
    return LifeRow(left, [min(counts[param], MOST) if param in counts else None for param in params])
