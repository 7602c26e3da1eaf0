"""The rules for starts."""

from sourwright.errors import InvalidStart
from sourwright.forms import is_within
from sourwright.plans import kinds_taken


def check_lives(program, name, lives):
    """Raises if there is no such procedure, or if these are not lives of its parameters."""
    taken = kinds_taken(program[name])
    if len(lives) != len(taken):
        raise InvalidStart("count", len(taken))
    for index, (kind, life) in enumerate(zip(taken, lives)):
        if not is_within(life, -1, program.keep_of(kind)):
            raise InvalidStart("life", index)
