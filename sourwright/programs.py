"""Programs and their procedures."""

from sourwright.checking import Checked
from sourwright.errors import UnknownName
from sourwright.known import Known
from sourwright.reading import read_program


class Book:
    """What programs and code programs are made of: kinds, wells and dishes, and procedures with names."""

    def __init__(self, kinds, wells, dishes, procedures):
        self._kinds = tuple(kinds)
        self._wells = tuple(wells)
        self._dishes = tuple(dishes)
        self._procedures = tuple(procedures)
        self._known = Known(self._kinds, self._wells, self._dishes)
        self._found = {}
        # The names of procedures all of whose ways have to be looked at to tell whether they are sound.
        self.unsure = []

    def __iter__(self):
        raise TypeError("programs are not iterated over")

    def _take_procedures(self):
        """Takes in the procedures that stand in steps, if they break no rule."""
        for index, given in enumerate(self._procedures):
            checked = Checked(index, given, self._known)
            self._found[given[0]] = Procedure(given, checked)
            self._known.callees[given[0]] = (checked.taken_kinds, checked.given_kinds)
            if not checked.is_sure:
                self.unsure.append(given[0])

    def _procedure(self, name):
        """The procedure of this name."""
        if name not in self._found:
            raise UnknownName(name)
        return self._found[name]

    def _keep(self, kind):
        """The keep of a kind."""
        if kind not in self._known.keep_by_kind:
            raise UnknownName(kind)
        return self._known.keep_by_kind[kind]

    def _ticks(self, name):
        """The ticks of a well, or if there is none of this name, of a dish."""
        if name in self._known.well_by_name:
            return self._known.well_by_name[name][1]
        if name in self._known.dish_by_name:
            return self._known.dish_by_name[name][2]
        raise UnknownName(name)

    def well_of(self, name):
        """The kind and the ticks of a well of the program."""
        return self._known.well_by_name[name]

    def dish_of(self, name):
        """The kinds that a dish of the program needs and makes, and its ticks."""
        return self._known.dish_by_name[name]

    def kinds_of_callee(self, name):
        """The kinds that calls of this name take, and those that they give."""
        return self._known.callees[name]


class Procedure:
    """A procedure of a program; it never changes."""

    def __init__(self, given, checked):
        self.name, self._params, self._results, self._body = given
        self._steps = checked.found
        self._kind_by_name = checked.kind_by_name
        self._kind_by_shelf = checked.kind_by_shelf

    @property
    def params(self):
        """The pairs of a name and a kind."""
        return self._params

    @property
    def results(self):
        """The names of the results."""
        return self._results

    @property
    def body(self):
        """The steps, with their bodies in them."""
        return self._body

    @property
    def names(self):
        """The names of its values, ascending."""
        return tuple(sorted(list(self._kind_by_name)))

    @property
    def shelves(self):
        """Its shelves, ascending."""
        return tuple(sorted(list(self._kind_by_shelf)))

    def __len__(self):
        return len(self._steps)

    def steps_told(self):
        """Its steps by place."""
        return list(self._steps)

    def called_names(self):
        """The names of the procedures that it calls."""
        return [step[1] for step in self._steps if step[0] == "call"]

    def kind_of(self, carrier):
        """The kind of a name or shelf."""
        if carrier in self._kind_by_name:
            return self._kind_by_name[carrier]
        if carrier not in self._kind_by_shelf:
            raise UnknownName(carrier)
        return self._kind_by_shelf[carrier]

    def __eq__(self, other):
        return (
            isinstance(other, Procedure) and self.name == other.name and self._params == other._params
            and self._results == other._results and self._body == other._body
        )


class Program(Book):
    """A program that breaks no rule; it never changes."""

    def __init__(self, kinds, wells, dishes, procedures):
        super().__init__(kinds, wells, dishes, procedures)
        self._take_procedures()

    @classmethod
    def read(cls, text):
        """The program that a text writes."""
        kinds, wells, dishes, procedures = read_program(text)
        return cls(kinds, wells, dishes, procedures)

    @property
    def kinds(self):
        """The pairs of a name and a keep."""
        return self._kinds

    @property
    def wells(self):
        """The triples of a name, a kind and ticks."""
        return self._wells

    @property
    def dishes(self):
        """The quadruples of a name, the kinds needed and made, and ticks."""
        return self._dishes

    @property
    def procedures(self):
        """The procedures, as tuples."""
        return self._procedures

    def __len__(self):
        return len(self._procedures)

    def __contains__(self, name):
        return name in self._found

    def __getitem__(self, name):
        return self._procedure(name)

    def keep_of(self, kind):
        """The keep of a kind."""
        return self._keep(kind)

    def ticks_of(self, name):
        """The ticks of a well, or if there is none of this name, of a dish."""
        return self._ticks(name)

    def with_procedure(self, procedure):
        """The program with one more procedure at the end."""
        return Program(self._kinds, self._wells, self._dishes, self._procedures + (tuple(procedure),))

    def __eq__(self, other):
        return (
            isinstance(other, Program) and self._kinds == other._kinds and self._wells == other._wells
            and self._dishes == other._dishes and self._procedures == other._procedures
        )

    def __repr__(self):
        return f"Program({len(self._kinds)}, {len(self._procedures)})"
