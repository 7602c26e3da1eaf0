"""Whether tables hold, step by step."""

from sourwright.effects import births_of, carriers_behind, moves_of, reads_of, ticks_of_op
from sourwright.forms import is_integer, is_tuple, is_within
from sourwright.lifetypes import LifeType
from sourwright.longest import MOST
from sourwright.rows import LifeRow


def holds(plan, types, claimed, value):
    """Whether a value is a table of a plan, against these types, that holds for the claimed type, if that is one."""
    if not is_table(plan, value) or not is_life_type(plan, claimed):
        return False
    needs, late, pairs = value
    rows = [{carrier: row for carrier, row in told} for told in pairs]
    if not all([is_begun(plan, carrier, rows[0][carrier]) for carrier in rows[0]]):
        return False
    for place, op in enumerate(plan.ops):
        if op.word == "call" and types[op.told[1]].is_never:
            return False
        if not all([can_be_read(rows[place], carrier, later, needs) for carrier, later in reads_of(op, types)]):
            return False
        ends = rows_behind(plan, op, types, rows[place])
        latest = min(late[place] + ticks_of_op(op, types), MOST)
        for _, goal in plan.ways[place]:
            if late[goal] < latest or not are_below(rows[goal], ends):
                return False
    given = [rows[plan.exit_place].get(carrier) for carrier in plan.given]
    return LifeType(plan.taken_keeps, needs, late[plan.exit_place], given).stands_for(claimed)


def is_begun(plan, carrier, row):
    """Whether a row at place 0 belongs to a parameter and has its entry."""
    return carrier in plan.taken and row.lost[plan.taken.index(carrier)] is not None


def can_be_read(rows, carrier, later, needs):
    """Whether what lies in a carrier can be read so many ticks later with these needs of the parameters."""
    if carrier not in rows:
        return False
    row = rows[carrier] - later
    if row.left is not None and row.left < 0:
        return False
    return all([lost is None or lost <= need for lost, need in zip(row.lost, needs)])


def rows_behind(plan, op, types, rows):
    """For each carrier that can have a row behind an operation, the rows that follow from those ahead of it."""
    found = {carrier: [] for carrier in carriers_behind(op, types, rows)}
    ticks = ticks_of_op(op, types)
    for carrier in list(found):
        if carrier not in op.fills:
            found[carrier].append(rows[carrier] if carrier in plan.colds else rows[carrier] - ticks)
    for carrier, allowance in births_of(op, types):
        if carrier in found:
            found[carrier].append(LifeRow(allowance, (None,) * len(plan.taken)))
    for source, target, more in moves_of(op, types):
        if target in found:
            found[target].append(rows[source] - more)
    return found


def are_below(rows, ends):
    """Whether each of these rows is below all rows that follow for its carrier, and there are such."""
    for carrier in rows:
        if carrier not in ends or not all([rows[carrier].is_below(row) for row in ends[carrier]]):
            return False
    return True


def is_table(plan, value):
    """Whether a value has the form of a table for a plan."""
    if not is_tuple(value) or len(value) != 3 or not all([is_tuple(part) for part in value]):
        return False
    needs, late, rows = value
    places = plan.exit_place + 1
    if len(needs) != len(plan.taken) or len(late) != places or len(rows) != places:
        return False
    if not all([is_within(need, -1, MOST - 1) for need in needs] + [is_within(tick, 0, MOST) for tick in late]):
        return False
    carriers = plan.carriers()
    return all([are_rows(told, carriers, len(plan.taken)) for told in rows])


def are_rows(told, carriers, many):
    """Whether a value is a tuple of pairs of different carriers and rows with so many entries."""
    if not is_tuple(told):
        return False
    seen = []
    for pair in told:
        if not is_tuple(pair) or len(pair) != 2 or not isinstance(pair[0], str) or not is_life_row(pair[1], many):
            return False
        if pair[0] not in carriers or pair[0] in seen:
            return False
        seen.append(pair[0])
    return True


def is_life_row(value, many):
    """Whether a value is a row with so many entries, and numbers that such a row can have."""
    if not isinstance(value, LifeRow) or len(value.lost) != many:
        return False
    terms = [lost for lost in value.lost if lost is not None]
    if not all([is_within(lost, 0, MOST) for lost in terms]):
        return False
    if value.left is None:
        return len(terms) > 0
    return is_within(value.left, -1, MOST - 1)


def is_life_type(plan, value):
    """Whether a value is a life type with the keeps and the number of results of a plan, and right numbers."""
    if not isinstance(value, LifeType) or value.keeps != plan.taken_keeps or len(value.rows) != len(plan.given):
        return False
    many = len(plan.taken)
    return (
        all([is_integer(keep) for keep in value.keeps]) and len(value.needs) == many
        and all([is_within(need, -1, MOST) for need in value.needs]) and is_within(value.took, 0, MOST)
        and all([row is None or is_life_row(row, many) for row in value.rows]) and isinstance(value.sours, bool)
    )
