"""Tables and papers, which show by adding alone that nothing sours."""

from sourwright.chains import Chains, exact_chains, plans_within
from sourwright.forms import as_tuple, is_tuple
from sourwright.plans import Plan
from sourwright.reckoning import exact_types
from sourwright.starts import check_lives
from sourwright.tables import holds


def table_of(program, name, types):
    """A table of a procedure that holds for its composed type."""
    return Chains(Plan(program, name), types).table()


def table_holds(program, name, types, u, table):
    """Whether a value is a table of a procedure that holds for the claimed type `u`."""
    return holds(Plan(program, name), types, u, as_tuple(table))


def paper_of(program, name):
    """A paper for a procedure, or None if its exact type is never."""
    if exact_types(program, (program[name].name,))[name].is_never:
        return None
    return made_paper(program, name)


def made_paper(program, name):
    """A paper for a procedure whose exact type is not never."""
    chains = exact_chains(program, name)
    return tuple([(one, chains[one].composed, chains[one].table()) for one in chains])


def paper_holds(program, name, lives, value):
    """Whether a value is a paper that shows that a start is fresh."""
    check_lives(program, name, lives)
    value = as_tuple(value)
    plans = plans_within(program, name)
    if not is_tuple(value) or len(value) != len(plans):
        return False
    types = {}
    for one, triple in zip(list(plans), value):
        if not is_tuple(triple) or len(triple) != 3:
            return False
        told, claimed, table = triple
        if told != one or not holds(plans[one], types, claimed, table):
            return False
        types[one] = claimed
    return lets_start(types[name], lives)


def lets_start(life_type, lives):
    """Whether a start with these lives is fresh by a type."""
    return not life_type.is_never and all([life >= need for life, need in zip(lives, life_type.needs)])
