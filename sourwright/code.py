"""Code programs and their procedures."""

from sourwright.coderows import check_code, ends_of
from sourwright.programs import Book


class CodeProcedure:
    """A procedure of a code program; it never changes."""

    def __init__(self, given):
        self.name, self._params, self._rows = given

    @property
    def params(self):
        """The kinds of its parameters."""
        return self._params

    @property
    def rows(self):
        """Its rows."""
        return self._rows

    def called_names(self):
        """The names of the procedures that it calls."""
        return [row[1] for row in self._rows if row[0] == "call"]

    def __len__(self):
        return len(self._rows)

    def __eq__(self, other):
        return (
            isinstance(other, CodeProcedure) and self.name == other.name and self._params == other._params
            and self._rows == other._rows
        )


class CodeProgram(Book):
    """A code program that breaks no rule; it never changes."""

    def __init__(self, kinds, wells, dishes, procedures):
        super().__init__(kinds, wells, dishes, procedures)
        for index, given in enumerate(self._procedures):
            check_code(index, given, self._known)
            procedure = CodeProcedure(given)
            self._found[procedure.name] = procedure
            self.unsure.append(procedure.name)
            self._known.callees[procedure.name] = (procedure.params, ends_of(procedure.rows)[0])

    @property
    def kinds(self):
        """The pairs of a name and a keep."""
        return self._kinds

    @property
    def wells(self):
        """The triples of a name, a kind and ticks."""
        return self._wells

    @property
    def dishes(self):
        """The quadruples of a name, the kinds needed and made, and ticks."""
        return self._dishes

    @property
    def procedures(self):
        """The code procedures, as tuples."""
        return self._procedures

    def __len__(self):
        return len(self._procedures)

    def __contains__(self, name):
        return name in self._found

    def __getitem__(self, name):
        return self._procedure(name)

    def keep_of(self, kind):
        """The keep of a kind."""
        return self._keep(kind)

    def ticks_of(self, name):
        """The ticks of a well, or if there is none of this name, of a dish."""
        return self._ticks(name)

    def __eq__(self, other):
        return (
            isinstance(other, CodeProgram) and self._kinds == other._kinds and self._wells == other._wells
            and self._dishes == other._dishes and self._procedures == other._procedures
        )

    def __repr__(self):
        return f"CodeProgram({len(self._kinds)}, {len(self._procedures)})"
