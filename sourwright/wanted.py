"""Which carriers are wanted at which places, and which names cannot share a cup."""


def wanted_by_place(plan):
    """For each place and the exit a dict, whose keys are the carriers that some way uses before it fills them."""
    wanted = [{} for _ in range(plan.exit_place)]
    wanted.append({carrier: True for carrier in plan.given})
    backwards = list(range(plan.exit_place))[::-1]
    is_more = True
    while is_more:
        is_more = False
        for place in backwards:
            ahead = wanted_ahead(plan.ops[place], [wanted[goal] for _, goal in plan.ways[place]])
            if len(ahead) > len(wanted[place]):
                wanted[place] = ahead
                is_more = True
    return wanted


def wanted_ahead(op, behind):
    """The carriers wanted ahead of an operation, as keys of a dict, if those in these dicts are wanted behind it."""
    ahead = {carrier: True for carrier in op.wants}
    for wanted in behind:
        for carrier in wanted:
            if carrier not in op.fills:
                ahead[carrier] = True
    return ahead


def clashes_of(plan, names):
    """A dict from each of these names to a dict with the names that it clashes with as keys."""
    clashes = {name: {} for name in names}
    add_all(clashes, plan.taken)
    wanted = wanted_by_place(plan)
    for place, op in enumerate(plan.ops):
        filled = [carrier for carrier in op.fills if carrier in clashes]
        add_all(clashes, filled)
        for _, goal in plan.ways[place]:
            behind = [carrier for carrier in wanted[goal] if carrier in clashes]
            add_all(clashes, behind)
            for name in filled:
                add_all_to(clashes, name, behind)
    return clashes


def add_all(clashes, names):
    """Makes all of these names clash."""
    for name in names:
        add_all_to(clashes, name, names)


def add_all_to(clashes, name, others):
    """Makes a name clash with all the other ones of these names."""
    for other in others:
        if other != name:
            clashes[name][other] = True
            clashes[other][name] = True


def fewest_shared(clashes, params):
    """A dict from names to the cups they have if cups are as few as can be; parameters have the first ones in order."""
    order = list(params) + [name for name in clashes if name not in params]
    for many in range(len(params), len(clashes) + 1):
        cups = {param: cup for cup, param in enumerate(params)}
        if share_out(clashes, order, len(params), many, cups):
            return cups
    return {}


def share_out(clashes, order, at, many, cups):
    """Gives the names from this index on cups below `many`, if that can be done; otherwise no cups to them."""
    if at == len(order):
        return True
    name = order[at]
    # Of the cups that nothing has yet, one is as good as another.
    unused = 1 + max([cups[other] for other in cups], default=-1)
    for cup in range(min(many, unused + 1)):
        if all([cups.get(other) != cup for other in clashes[name]]):
            cups[name] = cup
            if share_out(clashes, order, at + 1, many, cups):
                return True
            del cups[name]
    return False
