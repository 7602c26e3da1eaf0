"""The rules for procedures: their heads, the forms of their steps, and the kinds of their names and shelves."""

from sourwright.errors import InvalidProgram
from sourwright.forms import MOST_BODIES, is_step, is_word
from sourwright.steps import counts_fit, inner_bodies, names_known, names_of, operands_of, results_of, shelves_of


def checked_kinds(index, given, known):
    """The kinds of the names and shelves of a procedure, if it breaks no rule; `index` is its own in the errors."""
    check_head(index, given, known)
    found = []
    add_checked(found, index, given[3], 0, known)
    check_shelves(index, given, found)
    kinds = {name: kind for name, kind in given[1]}
    for place, step in enumerate(found):
        if not takes_needed(step, kinds, known) or not gives_kinds(step, kinds, known):
            raise InvalidProgram("kind", index, place)
    if not all([name in kinds for name in given[2]]):
        raise InvalidProgram("result", index, -1)
    return kinds


def kinds_of_call(given, kinds):
    """The kinds that a call of a checked procedure takes, and those that it gives."""
    return (tuple([kind for _, kind in given[1]]), tuple([kinds[name] for name in given[2]]))


def check_head(index, given, known):
    """Raises for the first rule that the name, the parameters or the results break by themselves."""
    name, params, results, _ = given
    if not is_word(name) or name in known.callees:
        raise InvalidProgram("name", index, -1)
    elder = {}
    for param, kind in params:
        if not is_word(param) or param in elder or not known.has_kinds((kind,)):
            raise InvalidProgram("param", index, -1)
        elder[param] = kind
    if not all([is_word(result) for result in results]):
        raise InvalidProgram("result", index, -1)


def add_checked(found, index, body, bodies, known):
    """Adds the steps of a body within so many bodies to those found before it, which gives them their places."""
    for step in body:
        word = step_fault(step, bodies, known)
        if word is not None:
            raise InvalidProgram(word, index, len(found))
        found.append(step)
        for inner in inner_bodies(step):
            add_checked(found, index, inner, bodies + 1, known)


def step_fault(step, bodies, known):
    """The word for the first rule that a step breaks by itself, or None."""
    if not is_step(step) or (bodies >= MOST_BODIES and step[0] in ("if", "while")):
        return "step"
    if not names_known(step, known):
        return "unknown"
    if step[0] == "call" and not counts_fit(step, known):
        return "count"
    return None


def check_shelves(index, given, found):
    """Raises if a name is used both for a value and for a shelf."""
    values = {name: True for name, _ in given[1]}
    for name in given[2]:
        values[name] = True
    for step in found:
        for name in names_of(step):
            values[name] = True
    for step in found:
        if any([shelf in values for shelf in shelves_of(step)]):
            raise InvalidProgram("shelf", index, -1)


def takes_needed(step, kinds, known):
    """Whether each operand of a step has a kind, and the one that is needed."""
    taken = [kinds.get(carrier) for carrier in operands_of(step)]
    if None in taken:
        return False
    if step[0] == "mix":
        return taken[0] == taken[1]
    if step[0] == "dish":
        needs, _, _ = known.dish_by_name[step[2]]
        return taken == [needs]
    if step[0] == "call":
        needed, _ = known.callees[step[1]]
        return taken == list(needed)
    return True


def gives_kinds(step, kinds, known):
    """Gives each result of a step its kind; False if one of them has another kind already."""
    for carrier, kind in zip(results_of(step), kinds_made(step, kinds, known)):
        if kinds.setdefault(carrier, kind) != kind:
            return False
    return True


def kinds_made(step, kinds, known):
    """The kind of each result of a step whose operands have their kinds."""
    if step[0] == "get":
        kind, _ = known.well_by_name[step[2]]
        return (kind,)
    if step[0] == "dish":
        _, makes, _ = known.dish_by_name[step[2]]
        return (makes,)
    if step[0] == "call":
        _, given = known.callees[step[1]]
        return given
    return tuple([kinds[carrier] for carrier in operands_of(step)[:1]])
