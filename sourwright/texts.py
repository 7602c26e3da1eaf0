"""The texts of programs."""


def show_program(program):
    """The text of a program."""
    lines = declared_lines(program.kinds, program.wells, program.dishes)
    for procedure in program.procedures:
        lines.extend(procedure_lines(procedure))
    return "\n".join(lines)


def declared_lines(kinds, wells, dishes):
    """The lines of kinds, wells and dishes."""
    lines = [joined(("kind",) + kind) for kind in kinds]
    lines.extend([joined(("well",) + well) for well in wells])
    lines.extend([joined(("dish",) + dish) for dish in dishes])
    return lines


def procedure_lines(procedure):
    """The lines of a procedure, from its head to its end."""
    name, params, results, body = procedure
    head = ["procedure", name] + [f"{param}:{kind}" for param, kind in params] + ["->"] + list(results)
    return [joined(head)] + body_lines(body) + ["end"]


def body_lines(body):
    """The lines of the steps of a body."""
    lines = []
    for step in body:
        lines.extend(step_lines(step))
    return lines


def step_lines(step):
    """The lines of a step, with those of its bodies."""
    if step[0] == "if":
        return ["if"] + body_lines(step[1]) + ["else"] + body_lines(step[2]) + ["end"]
    if step[0] == "while":
        return ["while"] + body_lines(step[1]) + ["end"]
    if step[0] == "call":
        return [joined(["call", step[1]] + list(step[2]) + ["->"] + list(step[3]))]
    if step[0] == "mix":
        _, made, sign, first, second = step
        return [joined(["mix", made, first, sign, second])]
    return [joined(step)]


def joined(items):
    """A line of these items."""
    return " ".join([str(item) for item in items])
