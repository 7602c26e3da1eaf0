"""The procedures of a part, which may call what the part uses."""

from sourwright.errors import InvalidPart
from sourwright.programs import Program


class Draft(Program):
    """The procedures of a part as a program, in which its uses are known like procedures before the first one."""

    def __init__(self, kinds, wells, dishes, uses, procedures):
        super().__init__(kinds, wells, dishes, ())
        callees = self._known.callees
        for index, use in enumerate(uses):
            if use.name in callees or not self._known.has_kinds(use.taken + use.given):
                raise InvalidPart("use", index)
            callees[use.name] = (use.taken, use.given)
        self._procedures = procedures
        self._take_procedures()
