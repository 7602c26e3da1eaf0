"""Places, the ways between them, and soundness."""

from sourwright.code import CodeProcedure
from sourwright.edges import edges_of
from sourwright.soundness import check_book


def steps(procedure):
    """The steps of a procedure by place, or the rows of a code procedure."""
    if isinstance(procedure, CodeProcedure):
        return procedure.rows
    return tuple(procedure.steps_told())


def flow(procedure):
    """All edges (place, answer, next), sorted by place, the answer True before False."""
    return edges_of(procedure)


def check_sound(program):
    """True if the program is sound; otherwise it raises Unfilled."""
    check_book(program)
    return True


def written_out(program, name):
    """The number of steps of a procedure in which each call counts 1 and the steps of its callee besides."""
    goal = program[name]
    counts = {}
    for given in program.procedures:
        found = steps(program[given[0]])
        counts[given[0]] = len(found) + sum([counts[step[1]] for step in found if step[0] == "call"])
        if given[0] == goal.name:
            break
    return counts[name]
