"""The rules for code procedures, and where their rows lead."""

from sourwright.errors import InvalidCode
from sourwright.forms import is_row, is_word


def check_code(index, given, known):
    """Raises for the first rule that a code procedure breaks; `index` is its own in the errors."""
    name, params, rows = given
    if not is_word(name) or name in known.callees:
        raise InvalidCode("name", index, -1)
    if not known.has_kinds(params):
        raise InvalidCode("kind", index, -1)
    if len(rows) == 0:
        raise InvalidCode("rows", index, -1)
    for at in range(len(rows)):
        word = row_fault(rows, at, known)
        if word is not None:
            raise InvalidCode(word, index, at)
    if not ends_of(rows):
        raise InvalidCode("end", index, -1)
    check_ways(index, rows)


def row_fault(rows, at, known):
    """The word for the first rule that a row breaks, where those before it are right, or None."""
    row = rows[at]
    if not is_row(row):
        return "row"
    if not names_known(row, known):
        return "unknown"
    if row[0] == "call" and not known.fits_callee(row):
        return "count"
    if not all([0 <= goal < len(rows) for goal in next_rows(rows, at)]):
        return "target"
    if row[0] == "end" and len(row[1]) != len(ends_of(rows[:at + 1])[0]):
        return "end"
    return None


def names_known(row, known):
    """Whether a row uses a well, dish or procedure that is there, if it uses one."""
    if row[0] == "get":
        return row[2] in known.well_by_name
    if row[0] == "dish":
        return row[2] in known.dish_by_name
    if row[0] == "call":
        return row[1] in known.callees
    return True


def ends_of(rows):
    """The cups of the ends among these rows, in order."""
    return [row[1] for row in rows if row[0] == "end"]


def next_rows(rows, at):
    """The rows to which a row goes on, whether they are there or not; for an ask, first that on yes."""
    row = rows[at]
    if row[0] == "end":
        return ()
    if row[0] == "jump":
        return (row[1],)
    if row[0] == "ask":
        return (at + 1, row[1])
    return (at + 1,)


def check_ways(index, rows):
    """Raises for the first row that cannot be reached, or from which no end can be reached."""
    ahead = [list(next_rows(rows, at)) for at in range(len(rows))]
    back = [[] for _ in rows]
    for at, goals in enumerate(ahead):
        for goal in goals:
            back[goal].append(at)
    from_start = reached([0], ahead)
    from_ends = reached([at for at, goals in enumerate(ahead) if len(goals) == 0], back)
    for at in range(len(rows)):
        if not from_start[at] or not from_ends[at]:
            raise InvalidCode("astray", index, at)


def reached(starts, ways):
    """Tells for each row whether one can get there from some of the starts; `ways` tells where each row leads."""
    marks = [False] * len(ways)
    waiting = list(starts)
    while waiting:
        at = waiting.pop()
        if not marks[at]:
            marks[at] = True
            waiting.extend(ways[at])
    return marks
