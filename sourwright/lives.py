"""Exact life types."""

from sourwright.reckoning import exact_types, type_by


def exact_type(program, name):
    """The exact life type of a procedure, over all its runs."""
    return exact_types(program, (program[name].name,))[name]


def composed_type(program, name, types):
    """The exact life type of a procedure by the types given for those that it calls."""
    return type_by(program, name, types)
