"""The greatest counts along ways that may run in circles.

Ways are a dict from each node to its pairs of a following node and the ticks up to there. Counts are lists with an
entry for each source that is followed: -1 where nothing comes from it, and `MOST` for all that is greater.
"""

MOST = 61


def greatest_counts(starts, ways):
    """The greatest counts at each node that can be reached from those of `starts`, a dict to the counts there."""
    found = {node: list(starts[node]) for node in starts}
    for part in circles(starts, ways):
        settle(found, part, ways)
    return found


def settle(found, part, ways):
    """Settles the counts of a circle whose nodes have all that comes from without, and hands them on."""
    inside = set(part)
    ticks_inside = [ticks for node in part for goal, ticks in ways[node] if goal in inside]
    if ticks_inside:
        counts = joined_counts([found[node] for node in part if node in found])
        if max(ticks_inside) > 0:
            counts = [MOST if count >= 0 else -1 for count in counts]
        for node in part:
            found[node] = counts
    for node in part:
        for goal, ticks in ways[node]:
            if goal not in inside:
                hand_on(found, goal, found[node], ticks)


def joined_counts(many):
    """The greatest of each entry."""
    counts = list(many[0])
    for more in many[1:]:
        counts = [max(one, two) for one, two in zip(counts, more)]
    return counts


def hand_on(found, goal, counts, ticks):
    """Raises the counts at a node to those that come there after so many ticks."""
    later = [min(count + ticks, MOST) if count >= 0 else -1 for count in counts]
    if goal in found:
        later = [max(one, two) for one, two in zip(found[goal], later)]
    found[goal] = later


def circles(starts, ways):
    """The nodes in lists of those that lead to each other; no list leads to one before it."""
    order = nodes_when_left(starts, ways)
    back = {node: [] for node in order}
    for node in order:
        for goal, _ in ways[node]:
            back[goal].append(node)
    taken = set()
    parts = []
    for node in order[::-1]:
        part = []
        waiting = [node]
        while waiting:
            one = waiting.pop()
            if one not in taken:
                taken.add(one)
                part.append(one)
                waiting.extend(back[one])
        if part:
            parts.append(part)
    return parts


def nodes_when_left(starts, ways):
    """The nodes in the order in which a walk that goes on as long as it can leaves them for good."""
    seen = set()
    order = []
    waiting = [(node, False) for node in starts]
    while waiting:
        node, is_left = waiting.pop()
        if is_left:
            order.append(node)
        elif node not in seen:
            seen.add(node)
            waiting.append((node, True))
            waiting.extend([(goal, False) for goal, _ in ways[node] if goal not in seen])
    return order
