"""Which procedures may stand for which, and callers that tell them apart."""

from sourwright.errors import InvalidStart
from sourwright.lives import exact_type
from sourwright.newnames import new_words
from sourwright.plans import kinds_taken
from sourwright.programs import Program
from sourwright.reckoning import exact_types


def stand_in(program, p, q):
    """None if `p` may stand for `q`, otherwise a caller of `q` that is fresh, and not so with `p` in its place."""
    check_fit(program[p], program[q])
    types = exact_types(program, (p, q))
    return caller_between(program, q, types[p], types[q])


def caller_between(program, callee, mine, other):
    """None if a type may stand for another one, otherwise a caller that is not fresh by the one, but by the other."""
    if mine.stands_for(other):
        return None
    if mine.is_never:
        return caller_of(program, callee, (), other.keeps)
    if not mine.fits_needs(other):
        return caller_of(program, callee, (), other.needs)
    if not mine.fits_took(other):
        return caller_with_value(program, callee, other.took + 1, other.keeps)
    result, lives = mine.weaker_start(other)
    row = other.rows[result]
    return caller_that_reads(program, callee, result, row(lives) - 1, lives)


def callers(program, name):
    """For each number of the plain type that matters, a caller that is fresh just if this number is better."""
    life_type = exact_type(program, name).plain()
    if life_type.is_never:
        return ()
    found = []
    for index, need in enumerate(life_type.needs):
        if need >= 0:
            lives = with_life(life_type.keeps, index, need - 1)
            found.append((("need", index),) + caller_of(program, name, (), lives))
    if 1 <= life_type.took <= 59:
        found.append((("took",),) + caller_with_value(program, name, life_type.took, life_type.keeps))
    for result, row in enumerate(life_type.rows):
        if row is not None:
            found.extend(callers_for_row(program, name, life_type, result))
    return tuple(found)


def callers_for_row(program, name, life_type, result):
    """The callers for the numbers of the row of a result."""
    row = life_type.rows[result]
    found = []
    if row.left is not None and row.left < 60:
        caller = caller_that_reads(program, name, result, row.left, life_type.keeps)
        found.append((("left", result),) + caller)
    for index, lost in enumerate(row.lost):
        if lost is not None and lost >= 1:
            # The least life with which it is good for one tick more by a better number; the other terms are greater.
            life = max(life_type.needs[index], lost)
            lives = with_life(life_type.keeps, index, life)
            caller = caller_that_reads(program, name, result, life - lost, lives)
            found.append((("lost", result, index),) + caller)
    return found


def check_fit(mine, other):
    """Raises if the parameters or the results of two procedures are not of the same kinds."""
    if kinds_taken(mine) != kinds_taken(other) or kinds_given(mine) != kinds_given(other):
        raise InvalidStart("fit", 0)


def kinds_given(procedure):
    """The kinds of the results of a procedure."""
    return tuple([procedure.kind_of(result) for result in procedure.results])


def with_life(lives, index, life):
    """The lives with another one at this index."""
    return lives[:index] + (life,) + lives[index + 1:]


def names_for_call(procedure):
    """Names for the arguments and results of a call in a caller that hands its parameters over, and one more."""
    taken, given = len(procedure.params), len(procedure.results)
    names = new_words((), taken + given + 1)
    return (names[:taken], names[taken:-1], names[-1])


def caller_of(program, callee, steps_behind, lives):
    """A program with a caller that hands its parameters over and carries out these steps then, and its start."""
    args, results, _ = names_for_call(program[callee])
    params = tuple(zip(args, kinds_taken(program[callee])))
    body = (("call", callee, args, results),) + steps_behind
    return with_caller(program, (), params, body, lives)


def caller_that_reads(program, callee, result, ticks, lives):
    """A caller that reads a result so many ticks behind the call."""
    _, results, _ = names_for_call(program[callee])
    waiting = (("wait", ticks),) if ticks > 0 else ()
    return caller_of(program, callee, waiting + (("scale", results[result], results[result], 1),), lives)


def caller_with_value(program, callee, life, lives):
    """A caller that reads a value with this life, which it has besides those that it hands over, behind the call."""
    args, results, extra = names_for_call(program[callee])
    kind = new_words([name for name, _ in program.kinds], 1)[0]
    params = tuple(zip(args, kinds_taken(program[callee]))) + ((extra, kind),)
    body = (("call", callee, args, results), ("scale", extra, extra, 1))
    return with_caller(program, ((kind, life),), params, body, lives + (life,))


def with_caller(program, kinds, params, body, lives):
    """The program with these kinds and a procedure more, the name of this, and the lives."""
    name = new_words([given[0] for given in program.procedures], 1)[0]
    procedures = program.procedures + ((name, params, (), body),)
    return (Program(program.kinds + kinds, program.wells, program.dishes, procedures), name, lives)
