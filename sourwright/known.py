"""What the steps of a program may refer to."""

from sourwright.errors import InvalidProgram
from sourwright.forms import is_within, is_word


class Known:
    """Kinds, wells and dishes that pass the rules for them, and the procedures known so far.

    `callees` tells for the name of each procedure what its calls take and give: a pair of tuples, with an entry
    for each argument and each result.
    """

    def __init__(self, kinds, wells, dishes):
        self.keep_by_kind = {}
        self.well_by_name = {}
        self.dish_by_name = {}
        self.callees = {}
        for index, (name, keep) in enumerate(kinds):
            self.add_kind(index, name, keep)
        if not self.keep_by_kind:
            raise InvalidProgram("kinds", -1, 0)
        for index, (name, kind, ticks) in enumerate(wells):
            self.check_maker(index, name, self.well_by_name, (kind,), ticks)
            self.well_by_name[name] = (kind, ticks)
        for index, (name, needs, makes, ticks) in enumerate(dishes):
            self.check_maker(index, name, self.dish_by_name, (needs, makes), ticks)
            self.dish_by_name[name] = (needs, makes, ticks)

    def add_kind(self, index, name, keep):
        """Takes in a kind that passes the rules for kinds."""
        if not is_word(name) or name in self.keep_by_kind:
            raise InvalidProgram("name", -1, index)
        if not is_within(keep, 0, 60):
            raise InvalidProgram("keep", -1, index)
        self.keep_by_kind[name] = keep

    def check_maker(self, index, name, elder, kinds, ticks):
        """Raises for the first rule that a well or dish breaks; `elder` holds those before it by name."""
        if not is_word(name) or name in elder:
            raise InvalidProgram("name", -1, index)
        if not self.has_kinds(kinds):
            raise InvalidProgram("kind", -1, index)
        if not is_within(ticks, 1, 9):
            raise InvalidProgram("ticks", -1, index)

    def has_kinds(self, kinds):
        """Whether all of these are kinds of the program."""
        return all([kind in self.keep_by_kind for kind in kinds])

    def fits_callee(self, call):
        """Whether a call of a known procedure has as many arguments and results as that, and no result twice."""
        _, callee, args, filled = call
        taken, given = self.callees[callee]
        return len(args) == len(taken) and len(filled) == len(given) == len(set(filled))
