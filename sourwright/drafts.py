"""The procedures of a part, which may call what the part uses."""

from sourwright.errors import InvalidPart
from sourwright.programs import Program


class Draft(Program):
    """The procedures of a part as a program, in which its uses are known like procedures before the first one.

    `used_types` are the types under which these are used, by name.
    """

    def __init__(self, kinds, wells, dishes, uses, procedures):
        super().__init__(kinds, wells, dishes, ())
        self.used_types = {}
        callees = self._known.callees
        keeps = self._known.keep_by_kind
        for index, use in enumerate(uses):
            if use.name in callees or not self._known.has_kinds(use.taken) or not self._known.has_kinds(use.given):
                raise InvalidPart("use", index)
            callees[use.name] = (use.taken, use.given)
            self.used_types[use.name] = use.life_type(tuple([keeps[kind] for kind in use.taken]))
        self._procedures = procedures
        self._take_procedures()
