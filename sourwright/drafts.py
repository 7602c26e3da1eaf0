"""The procedures of a part, which may call what the part uses."""

from sourwright.errors import InvalidPart
from sourwright.programs import Program


class Draft(Program):
    """The procedures of a part as a program, in which its uses are known like procedures before the first one."""

    def __init__(self, kinds, wells, dishes, uses, procedures):
        self._used = uses
        super().__init__(kinds, wells, dishes, procedures)

    def _take_procedures(self):
        """Takes in the uses, and then the procedures, which may call them."""
        callees = self._known.callees
        for index, use in enumerate(self._used):
            if use.name in callees or not self._known.has_kinds(use.taken + use.given):
                raise InvalidPart("use", index)
            callees[use.name] = (use.taken, use.given)
        super()._take_procedures()
