"""Steps put into procedures, such that values are new again when they are read, or rest until then."""

from sourwright.edges import size_of
from sourwright.forms import LETTERS
from sourwright.least import Least, ops_of, paths_to_places, with_op
from sourwright.programs import Program
from sourwright.reckoning import exact_types
from sourwright.starts import check_lives


def inserted(program, name, place, step):
    """The program with a step ahead of the one at this place of a procedure, or at the end of its body."""
    return with_steps(program, name, {place: step})


def rested(program, name, place, later, x):
    """The program in which a name is put on a new shelf ahead of one step and taken back ahead of a later one."""
    procedure = program[name]
    taken = procedure.names + procedure.shelves
    shelf = [letter for letter in LETTERS if letter not in taken][0]
    return with_steps(program, name, {place: ("put", shelf, x), later: ("take", x, shelf)})


def with_steps(program, name, more):
    """The program with more steps in a procedure, which stand in a dict by the places that they come ahead of."""
    procedure = program[name]
    changed = (procedure.name, procedure.params, procedure.results, whole_body_with(procedure, more))
    procedures = tuple([changed if given[0] == name else given for given in program.procedures])
    return Program(program.kinds, program.wells, program.dishes, procedures)


def whole_body_with(procedure, more):
    """The body of a procedure with more steps in it or at its end."""
    body = body_with(procedure.body, 0, more)
    return body + (more[len(procedure)],) if len(procedure) in more else body


def body_with(body, first, more):
    """A body that begins at the place `first`, with more steps in it."""
    found = []
    place = first
    for step in body:
        if place in more:
            found.append(more[place])
        found.append(step_with(step, place, more))
        place += size_of(step)
    return tuple(found)


def step_with(step, place, more):
    """The step at this place, with more steps in its bodies."""
    if step[0] == "while":
        return ("while", body_with(step[1], place + 1, more))
    if step[0] == "if":
        _, yes, no = step
        second = place + 1 + sum([size_of(inner) for inner in yes])
        return ("if", body_with(yes, place + 1, more), body_with(no, second, more))
    return step


def mends(program, name, lives):
    """The triples of a place, a name and a well with which a get makes a start fresh, or leaves it so."""
    check_lives(program, name, lives)
    procedure = program[name]
    mender = Mender(program, procedure, lives)
    fills = [(x, wells_of_kind(program, procedure.kind_of(x))) for x in procedure.names]
    for place, path in enumerate(mender.paths):
        stand = mender.stand_ahead(path[0])
        if stand is None:
            return
        ops = mender.ops[path[0]:]
        inner = (0,) + path[1:]
        tried = {}
        for x, wells in fills:
            for well, ticks, keep in wells:
                if ticks not in tried:
                    tried[ticks] = stand.is_fresh_along(with_op(ops, inner, ("wait", ticks)))
                if not tried[ticks] and (x, ticks) not in tried:
                    tried[x, ticks] = stand.is_fresh_along(with_op(ops, inner, ("get", x, ticks, keep)))
                # No value is better than a new one of its kind; so where it is enough to wait, any get will do.
                if tried[ticks] or tried[x, ticks]:
                    yield (place, x, well)


def wells_of_kind(program, kind):
    """The triples of a well of this kind, its ticks, and the keep of the kind."""
    keep = program.keep_of(kind)
    return [(well, ticks, keep) for well, made, ticks in program.wells if made == kind]


class Mender:
    """A procedure with a start, in which one get more is tried at each place.

    `stands` tells how values stand ahead of the first operations of the body, as far as nothing sour can be read
    before; `paths` are those to the places and the exit.
    """

    def __init__(self, program, procedure, lives):
        self.ops = ops_of(program, procedure.body, exact_types(program, procedure.called_names()))
        self.paths = paths_to_places(self.ops, ()) + [(len(self.ops),)]
        self.stands = [Least(0, {param: life for (param, _), life in zip(procedure.params, lives)}, {})]

    def stand_ahead(self, at):
        """How values stand ahead of an operation of the body, or behind them all; None if some can be sour before."""
        while len(self.stands) <= at and self.stands[-1] is not None:
            stand = self.stands[-1].copied()
            goes_on = stand.goes_along(self.ops[len(self.stands) - 1:len(self.stands)])
            self.stands.append(stand if goes_on else None)
        return self.stands[at] if at < len(self.stands) else None
