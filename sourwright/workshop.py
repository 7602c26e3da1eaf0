"""A workshop, in which parts are put together, taken back, and tried."""

from sourwright.errors import InvalidPart, UnknownName
from sourwright.forms import is_word
from sourwright.parts import Part, link


class Workshop:
    """Texts of parts by name.

    `kept` is a dict from names to texts; `past` are the elder ones, the last one at the end, of which `fixed` cannot be
    taken back. Neither these dicts nor `past` are changed: they are replaced by others.
    """

    def __init__(self):
        self.kept = {}
        self.past = ()
        self.fixed = 0
        self._part_by_text = {}

    def put(self, name, text):
        """Keeps a text under a name."""
        if not is_word(name):
            raise InvalidPart("name", 0)
        kept = dict(self.kept)
        kept[name] = text
        self._replace(kept)

    def drop(self, name):
        """Removes the text of a name."""
        if name not in self.kept:
            raise UnknownName(name)
        self._replace({other: self.kept[other] for other in self.kept if other != name})

    def undo(self):
        """Takes back the last put or drop that stands; False if there is none."""
        if len(self.past) <= self.fixed:
            return False
        self.kept = self.past[-1]
        self.past = self.past[:-1]
        return True

    def text(self, name):
        """The text of a name."""
        if name not in self.kept:
            raise UnknownName(name)
        return self.kept[name]

    @property
    def names(self):
        """The names in order."""
        return tuple(list(self.kept))

    def __len__(self):
        return len(self.kept)

    def build(self):
        """The program of the parts that all texts write."""
        parts = []
        for index, name in enumerate(self.names):
            part = self._part(self.kept[name])
            if part.name != name:
                raise InvalidPart("name", index)
            parts.append(part)
        return link(tuple(parts))

    @property
    def read_count(self):
        """The number of different texts that were read so far."""
        return len(self._part_by_text)

    def trial(self):
        """An object for a `with` statement, whose block is taken back unless it is kept."""
        return Trial(self)

    def _replace(self, kept):
        """Keeps other texts, such that this can be taken back."""
        self.past = self.past + (self.kept,)
        self.kept = kept

    def _part(self, text):
        """The part that a text writes; no text is read twice."""
        if text not in self._part_by_text:
            self._part_by_text[text] = Part.read(text)
        return self._part_by_text[text]


class Trial:
    """A block of deeds in a workshop, which are taken back at its end unless they are kept.

    `lasting` is None as long as they are not kept.
    """

    def __init__(self, shop):
        self.shop = shop
        self.lasting = None

    def __enter__(self):
        shop = self.shop
        self.kept = shop.kept
        self.past = shop.past
        self.fixed = shop.fixed
        self.lasting = None
        shop.fixed = len(self.past)
        return self

    def __exit__(self, kind, value, trace):
        shop = self.shop
        shop.fixed = self.fixed
        if kind is not None or self.lasting is None:
            shop.kept = self.kept
            shop.past = self.past

    def keep(self):
        """Lets the deeds of the block stand, if it ends without an error."""
        self.lasting = True


def within(block, call):
    """What a call gives within a block that it is given."""
    with block as given:
        result = call(given)
    return result
