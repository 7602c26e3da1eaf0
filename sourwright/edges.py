"""Where steps and rows lead."""

from sourwright.code import CodeProcedure
from sourwright.coderows import next_rows
from sourwright.steps import inner_bodies


def edges_of(procedure):
    """All edges (place, answer, next) of a procedure or code procedure, by place, the answer True before False."""
    if isinstance(procedure, CodeProcedure):
        return code_edges(procedure.rows)
    edges = []
    add_body_edges(edges, procedure.body, 0, len(procedure))
    return tuple(edges)


def add_body_edges(edges, body, first, behind):
    """Adds the edges of a body that begins at the place `first`, and after which the way goes on at `behind`."""
    place = first
    for at, step in enumerate(body):
        following = place + size_of(step)
        add_step_edges(edges, step, place, following if at + 1 < len(body) else behind)
        place = following


def add_step_edges(edges, step, place, goal):
    """Adds the edges of the step at this place and of the steps in it; after it the way goes on at `goal`."""
    if step[0] == "while":
        edges.append((place, True, place + 1 if step[1] else place))
        edges.append((place, False, goal))
        add_body_edges(edges, step[1], place + 1, place)
    elif step[0] == "if":
        _, yes, no = step
        second = place + 1 + sum([size_of(inner) for inner in yes])
        edges.append((place, True, place + 1 if yes else goal))
        edges.append((place, False, second if no else goal))
        add_body_edges(edges, yes, place + 1, goal)
        add_body_edges(edges, no, second, goal)
    else:
        edges.append((place, None, goal))


def size_of(step):
    """The number of places of a step, with those of the steps in it."""
    return 1 + sum([size_of(inner) for body in inner_bodies(step) for inner in body])


def code_edges(rows):
    """The edges of these rows; an end leads to the exit."""
    edges = []
    for at, row in enumerate(rows):
        goals = next_rows(rows, at)
        if row[0] == "end":
            edges.append((at, None, len(rows)))
        elif row[0] == "ask":
            edges.append((at, True, goals[0]))
            edges.append((at, False, goals[1]))
        else:
            edges.append((at, None, goals[0]))
    return tuple(edges)
