"""Exact life types."""

from sourwright.chains import Chains, exact_chains
from sourwright.plans import Plan


def exact_type(program, name):
    """The exact life type of a procedure, over all its runs."""
    return exact_chains(program, program[name].name)[name].composed


def composed_type(program, name, types):
    """The exact life type of a procedure by the types given for those that it calls."""
    return Chains(Plan(program, name), types).composed
