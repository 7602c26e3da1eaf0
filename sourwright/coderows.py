"""The rules for code procedures, and where their rows lead."""

from sourwright.errors import InvalidCode
from sourwright.forms import is_row, is_word


def check_code(index, given, known):
    """Raises for the first rule that a code procedure breaks; `index` is its own in the errors."""
    name, params, rows = given
    if not is_word(name) or name in known.callees:
        raise InvalidCode("name", index, -1)
    if not known.has_kinds(params):
        raise InvalidCode("kind", index, -1)
    if len(rows) == 0:
        raise InvalidCode("rows", index, -1)
    many = None
    for at, row in enumerate(rows):
        word = row_fault(row, known)
        if word is None:
            word = goal_fault(rows, at, many)
        if word is not None:
            raise InvalidCode(word, index, at)
        if row[0] == "end":
            many = len(row[1])
    if many is None:
        raise InvalidCode("end", index, -1)
    check_ways(index, [next_rows(rows, at) for at in range(len(rows))])


def row_fault(row, known):
    """The word for the first rule that a row breaks by itself, or None."""
    if not is_row(row):
        return "row"
    if row[0] in ("get", "dish", "call"):
        if not names_known(row, known):
            return "unknown"
        if row[0] == "call" and not known.fits_callee(row):
            return "count"
    return None


def goal_fault(rows, at, many):
    """The word for what is wrong with the goals of a row, or with the number of cups of an end, or None.

    The ends before it have so many cups; None if there are none.
    """
    row = rows[at]
    word = row[0]
    if word == "end":
        return "end" if many is not None and len(row[1]) != many else None
    if word in ("ask", "jump") and not 0 <= row[1] < len(rows) or word != "jump" and at + 1 == len(rows):
        return "target"
    return None


def names_known(row, known):
    """Whether a row uses a well, dish or procedure that is there, if it uses one."""
    if row[0] == "get":
        return row[2] in known.well_by_name
    if row[0] == "dish":
        return row[2] in known.dish_by_name
    if row[0] == "call":
        return row[1] in known.callees
    return True


def ends_of(rows):
    """The cups of the ends among these rows, in order."""
    return [row[1] for row in rows if row[0] == "end"]


def next_rows(rows, at):
    """The rows to which a row goes on, whether they are there or not; for an ask, first that on yes."""
    row = rows[at]
    if row[0] == "end":
        return ()
    if row[0] == "jump":
        return (row[1],)
    if row[0] == "ask":
        return (at + 1, row[1])
    return (at + 1,)


def check_ways(index, ahead):
    """Raises for the first row that cannot be reached, or from which no end can be reached."""
    back = [[] for _ in ahead]
    ends = []
    for at, goals in enumerate(ahead):
        if len(goals) == 0:
            ends.append(at)
        for goal in goals:
            back[goal].append(at)
    from_start = reached([0], ahead)
    from_ends = reached(ends, back)
    for at in range(len(ahead)):
        if not from_start[at] or not from_ends[at]:
            raise InvalidCode("astray", index, at)


def reached(starts, ways):
    """Tells for each row whether one can get there from some of the starts; `ways` tells where each row leads."""
    marks = [False] * len(ways)
    waiting = list(starts)
    while waiting:
        at = waiting.pop()
        if not marks[at]:
            marks[at] = True
            waiting.extend(ways[at])
    return marks
