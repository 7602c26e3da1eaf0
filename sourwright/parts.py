"""Parts, and linking them."""

from sourwright.drafts import Draft
from sourwright.errors import InvalidPart, LinkRefused
from sourwright.lives import composed_type
from sourwright.programs import Program
from sourwright.soundness import check_book
from sourwright.standing import caller_between
from sourwright.uses import read_part


class Part:
    """A part that breaks no rule; it never changes."""

    def __init__(self, text, name, draft):
        self._text = text
        self.name = name
        self._draft = draft

    @classmethod
    def read(cls, text):
        """The part that a text writes."""
        name, kinds, wells, dishes, uses, procedures = read_part(text)
        draft = Draft(kinds, wells, dishes, uses, procedures)
        check_book(draft)
        return cls(text, name, draft)

    @property
    def kinds(self):
        """The pairs of a name and a keep."""
        return self._draft.kinds

    @property
    def wells(self):
        """The triples of a name, a kind and ticks."""
        return self._draft.wells

    @property
    def dishes(self):
        """The quadruples of a name, the kinds needed and made, and ticks."""
        return self._draft.dishes

    @property
    def procedures(self):
        """The procedures, as tuples."""
        return self._draft.procedures

    @property
    def uses(self):
        """A dict from the names of its uses to the types under which they are used."""
        return dict(self._draft.used_types)

    def types(self):
        """A dict from the names of its procedures to their plain types, put together from those of its uses."""
        types = self.uses
        plain = {}
        for given in self.procedures:
            types[given[0]] = composed_type(self._draft, given[0], types)
            plain[given[0]] = types[given[0]].plain()
        return plain

    def kinds_of_callee(self, name):
        """The kinds that calls of a use or of a procedure take, and those that they give."""
        return self._draft.kinds_of_callee(name)

    def __str__(self):
        return str(self._text)

    def __eq__(self, other):
        return isinstance(other, Part) and self._text == other._text


def link(parts):
    """The program of all parts, or an error if they do not go together."""
    check_names(parts)
    check_declared(parts)
    check_uses(parts, owners_by_procedure(parts))
    told = {}
    for index, part in enumerate(parts):
        uses = part.uses
        for used in uses:
            if not told[used].stands_for(uses[used]):
                caller = caller_between(linked(parts[:index]), used, told[used], uses[used])
                raise LinkRefused(part.name, used, caller)
        told.update(part.types())
    return linked(parts)


def check_names(parts):
    """Raises for the first part with the name of an earlier one."""
    names = [part.name for part in parts]
    for index, name in enumerate(names):
        if name in names[:index]:
            raise InvalidPart("part", index)


def check_declared(parts):
    """Raises for the first part with a kind, well or dish that is otherwise in an earlier one."""
    rows = {}
    for index, part in enumerate(parts):
        for word, declared in (("kind", part.kinds), ("well", part.wells), ("dish", part.dishes)):
            for row in declared:
                if rows.setdefault((word, row[0]), row) != row:
                    raise InvalidPart("clash", index)


def owners_by_procedure(parts):
    """A dict from the names of all procedures to the indexes of their parts; raises if two have one name."""
    owners = {}
    for index, part in enumerate(parts):
        for given in part.procedures:
            if given[0] in owners:
                raise InvalidPart("procedure", index)
            owners[given[0]] = index
    return owners


def check_uses(parts, owners):
    """Raises for the first part with a use of what no earlier part has, or has with other kinds."""
    for index, part in enumerate(parts):
        for used in part.uses:
            owner = owners.get(used, index)
            if owner >= index or parts[owner].kinds_of_callee(used) != part.kinds_of_callee(used):
                raise InvalidPart("missing", index)


def linked(parts):
    """The program of all parts, which go together."""
    procedures = []
    for part in parts:
        procedures.extend(part.procedures)
    return Program(
        merged([part.kinds for part in parts]), merged([part.wells for part in parts]),
        merged([part.dishes for part in parts]), tuple(procedures),
    )


def merged(many):
    """The rows of all of these, each once, in the order in which they occur first."""
    return tuple(list({row: True for rows in many for row in rows}))
