"""The fewest ticks in which straight procedures can be carried out with few cups and cold places."""

from sourwright.errors import TooLong
from sourwright.moves import Search
from sourwright.starts import check_lives
from sourwright.straight import Straight, is_straight

MOST_STEPS = 6


def fewest_ticks(program, name, lives, *, cups, cold):
    """The ticks, the rows and the table of code that takes the fewest ticks and stays fresh, or None."""
    check_lives(program, name, lives)
    if not is_straight(program, name, MOST_STEPS):
        raise TooLong(len(program[name]))
    straight = Straight(program, name)
    ways = Search(straight, cold)
    stand = ways.first_done(lives, cups)
    if stand is None:
        return None
    ticks = sum([op.ticks for op in straight.plan.ops]) + stand.moves
    last = ("end", tuple([stand.cup_of(result) for result in straight.plan.given]))
    rows = [last]
    table = [stand.entry()]
    while stand.before is not None:
        rows.append(stand.row)
        stand = stand.before
        table.append(stand.entry())
    return (ticks, tuple(rows[::-1]), tuple(table[::-1]))
