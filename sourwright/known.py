"""What the steps of a program may refer to."""

from sourwright.errors import InvalidProgram
from sourwright.forms import is_within, is_word


class Known:
    """Kinds, wells and dishes that pass the rules for them, and the procedures known so far.

    `callees` tells for the name of each procedure what its calls take and give: a pair of tuples, with an entry
    for each argument and each result.
    """

    def __init__(self, kinds, wells, dishes):
        self.keep_by_kind = {}
        self.well_by_name = {}
        self.dish_by_name = {}
        self.callees = {}
        self.add_kinds(kinds)
        self.add_wells(wells)
        self.add_dishes(dishes)

    def add_kinds(self, kinds):
        """Takes in the kinds, or raises for the first rule that one of them breaks."""
        for index, (name, keep) in enumerate(kinds):
            if not is_word(name) or name in self.keep_by_kind:
                raise InvalidProgram("name", -1, index)
            if not is_within(keep, 0, 60):
                raise InvalidProgram("keep", -1, index)
            self.keep_by_kind[name] = keep
        if not self.keep_by_kind:
            raise InvalidProgram("kinds", -1, 0)

    def add_wells(self, wells):
        """Takes in the wells, as `add_kinds`."""
        for index, (name, kind, ticks) in enumerate(wells):
            if not is_word(name) or name in self.well_by_name:
                raise InvalidProgram("name", -1, index)
            if kind not in self.keep_by_kind:
                raise InvalidProgram("kind", -1, index)
            if not is_within(ticks, 1, 9):
                raise InvalidProgram("ticks", -1, index)
            self.well_by_name[name] = (kind, ticks)

    def add_dishes(self, dishes):
        """Takes in the dishes, as `add_kinds`."""
        for index, (name, needs, makes, ticks) in enumerate(dishes):
            if not is_word(name) or name in self.dish_by_name:
                raise InvalidProgram("name", -1, index)
            if needs not in self.keep_by_kind or makes not in self.keep_by_kind:
                raise InvalidProgram("kind", -1, index)
            if not is_within(ticks, 1, 9):
                raise InvalidProgram("ticks", -1, index)
            self.dish_by_name[name] = (needs, makes, ticks)

    def has_kinds(self, kinds):
        """Whether all of these are kinds of the program."""
        for kind in kinds:
            if kind not in self.keep_by_kind:
                return False
        return True

    def fits_callee(self, call):
        """Whether a call of a known procedure has as many arguments and results as that, and no result twice."""
        _, callee, args, filled = call
        taken, given = self.callees[callee]
        return len(args) == len(taken) and len(filled) == len(given) == len(set(filled))
