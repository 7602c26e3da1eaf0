"""Where steps and rows lead."""

from sourwright.code import CodeProcedure
from sourwright.coderows import next_rows
from sourwright.steps import inner_bodies


def edges_of(procedure):
    """All edges (place, answer, next) of a procedure or code procedure, by place, the answer True before False."""
    edges = []
    for place, goals in enumerate(goals_of(procedure)):
        if len(goals) == 1:
            edges.append((place, None, goals[0]))
        else:
            edges.append((place, True, goals[0]))
            edges.append((place, False, goals[1]))
    return tuple(edges)


def goals_of(procedure):
    """For each place of a procedure or code procedure a list of the next place, or of that on yes and that on no."""
    if isinstance(procedure, CodeProcedure):
        rows = procedure.rows
        return [[len(rows)] if row[0] == "end" else list(next_rows(rows, at)) for at, row in enumerate(rows)]
    goals = []
    for place, at in add_goals(goals, procedure.body, []):
        goals[place][at] = len(goals)
    return goals


def add_goals(goals, body, ends):
    """Adds the goals of the steps of a body to those of the places before it.

    `ends` are the pairs of a place and an index in its goals that lead to the body; those that lead on are returned.
    """
    for step in body:
        here = len(goals)
        for place, at in ends:
            goals[place][at] = here
        if step[0] == "if":
            goals.append([here, here])
            ends = add_goals(goals, step[1], [(here, 0)]) + add_goals(goals, step[2], [(here, 1)])
        elif step[0] == "while":
            goals.append([here, here])
            for place, at in add_goals(goals, step[1], [(here, 0)]):
                goals[place][at] = here
            ends = [(here, 1)]
        else:
            goals.append([here])
            ends = [(here, 0)]
    return ends


def size_of(step):
    """The number of places of a step, with those of the steps in it."""
    return 1 + sum([size_of(inner) for body in inner_bodies(step) for inner in body])
