"""Steps put into procedures, such that values are new again when they are read, or rest until then."""

from sourwright.edges import size_of
from sourwright.forms import LETTERS
from sourwright.papers import lets_start
from sourwright.programs import Program
from sourwright.reckoning import Reckoner, exact_types
from sourwright.starts import check_lives


def inserted(program, name, place, step):
    """The program with a step ahead of the one at this place of a procedure, or at the end of its body."""
    return with_steps(program, name, {place: step})


def rested(program, name, place, later, x):
    """The program in which a name is put on a new shelf ahead of one step and taken back ahead of a later one."""
    procedure = program[name]
    taken = procedure.names + procedure.shelves
    shelf = [letter for letter in LETTERS if letter not in taken][0]
    return with_steps(program, name, {place: ("put", shelf, x), later: ("take", x, shelf)})


def with_steps(program, name, more):
    """The program with more steps in a procedure, which stand in a dict by the places that they come ahead of."""
    procedure = program[name]
    changed = (procedure.name, procedure.params, procedure.results, whole_body_with(procedure, more))
    procedures = tuple([changed if given[0] == name else given for given in program.procedures])
    return Program(program.kinds, program.wells, program.dishes, procedures)


def whole_body_with(procedure, more):
    """The body of a procedure with more steps in it or at its end."""
    body = body_with(procedure.body, 0, more)
    return body + (more[len(procedure)],) if len(procedure) in more else body


def body_with(body, first, more):
    """A body that begins at the place `first`, with more steps in it."""
    found = []
    place = first
    for step in body:
        if place in more:
            found.append(more[place])
        found.append(step_with(step, place, more))
        place += size_of(step)
    return tuple(found)


def step_with(step, place, more):
    """The step at this place, with more steps in its bodies."""
    if step[0] == "while":
        return ("while", body_with(step[1], place + 1, more))
    if step[0] == "if":
        _, yes, no = step
        second = place + 1 + sum([size_of(inner) for inner in yes])
        return ("if", body_with(yes, place + 1, more), body_with(no, second, more))
    return step


def mends(program, name, lives):
    """The triples of a place, a name and a well with which a get makes a start fresh, or leaves it so."""
    check_lives(program, name, lives)
    procedure = program[name]
    reckoner = Reckoner(program, procedure, exact_types(program, (name,)))
    for place in range(len(procedure) + 1):
        for x in procedure.names:
            tried = {}
            for well, kind, ticks in program.wells:
                if kind == procedure.kind_of(x):
                    if ticks not in tried:
                        # It stays sound with one more get, and of a right form.
                        body = whole_body_with(procedure, {place: ("get", x, well)})
                        tried[ticks] = lets_start(reckoner.life_type(body), lives)
                    if tried[ticks]:
                        yield (place, x, well)
