"""Whether starts are fresh, and how they sour."""

from sourwright.earliest import earliest_sour
from sourwright.errors import TooLong
from sourwright.flow import written_out
from sourwright.papers import lets_start, made_paper
from sourwright.reckoning import exact_types
from sourwright.starts import check_lives

# The most steps of a text written out that is searched for its earliest sour read.
MOST_STEPS = 80


def is_fresh(program, name, lives):
    """Whether no run of a start reads anything sour."""
    check_lives(program, name, lives)
    return lets_start(exact_types(program, (name,))[name], lives)


def judge(program, name, lives):
    """A paper that shows that a start is fresh, or the answers and the tick of an earliest sour read."""
    if is_fresh(program, name, lives):
        return ("fresh", made_paper(program, name))
    count = written_out(program, name)
    if count > MOST_STEPS:
        raise TooLong(count)
    answers, tick = earliest_sour(program, name, lives)
    return ("sour", answers, tick)
