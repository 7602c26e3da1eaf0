"""What parts use: procedures of other parts, under life types that their lines tell."""

from sourwright.forms import is_word
from sourwright.lifetypes import LifeType
from sourwright.longest import MOST
from sourwright.reading import Lines, around_arrow, is_new_name, number_of, read_declared, read_procedures
from sourwright.rows import LifeRow

# What stands in a line for a row that is None, for a term that is None, and for ticks where no start is fresh.
NO_ROW = "sour"
NO_TERM = "-"
NEVER = "never"


class Use:
    """A procedure that a part uses: the kinds that it takes and gives, and the numbers of its type.

    `bounds` are rows, or None; `longest` are the ticks that it takes, or None for a type that is never.
    """

    def __init__(self, name, taken, given, least, bounds, longest):
        self.name = name
        self.taken = taken
        self.given = given
        self.least = least
        self.bounds = bounds
        self.longest = longest

    def life_type(self, keeps):
        """The type under which it is used, with these keeps of the kinds that it takes."""
        if self.longest is None:
            return LifeType.never(keeps, len(self.given))
        return LifeType(keeps, self.least, self.longest, self.bounds)


def read_part(text):
    """The name, kinds, wells, dishes, uses and procedures of the part that a text writes."""
    lines = Lines(text)
    words = lines.told[0].split(" ")
    lines.pass_line(len(words) == 2 and words[0] == "part" and is_word(words[1]))
    kinds = read_declared(lines, "kind")
    wells = read_declared(lines, "well")
    dishes = read_declared(lines, "dish")
    uses = read_uses(lines)
    return (words[1], kinds, wells, dishes, uses, read_procedures(lines))


def read_uses(lines):
    """The uses that the next lines write, as far as they begin like uses."""
    uses = []
    while lines.at < len(lines.told) and lines.told[lines.at].startswith("use "):
        use = use_of(lines.told[lines.at].split(" "), lines.seen)
        lines.pass_line(use is not None)
        uses.append(use)
    return tuple(uses)


def use_of(words, seen):
    """The use that a line of these words writes, or None; `seen` has words that can be names as keys."""
    before, behind = around_arrow(words)
    if len(before) < 2 or len(behind) == 0 or not is_word(before[1]):
        return None
    taken, least = [], []
    for word in before[2:]:
        kind, _, told = word.partition(":")
        need = number_of(told)
        if need is None or not -1 <= need <= MOST or kind not in seen and not is_new_name(kind, seen):
            return None
        taken.append(kind)
        least.append(need)
    given, bounds = [], []
    for word in behind[:-1]:
        parts = word.split(":")
        kind, *told = parts
        row = row_of(told, len(taken))
        if row is None and told != [NO_ROW] or kind not in seen and not is_new_name(kind, seen):
            return None
        given.append(kind)
        bounds.append(row)
    took = number_of(behind[-1])
    if took is None:
        if behind[-1] != NEVER or least != [MOST] * len(least) or bounds != [None] * len(bounds):
            return None
    elif not 0 <= took <= MOST:
        return None
    return Use(before[1], tuple(taken), tuple(given), least, bounds, took)


def row_of(told, many):
    """The row with so many entries that these words write, or None."""
    terms = []
    low, high = -1, MOST - 1
    for word in told:
        term = number_of(word)
        if term is None and word != NO_TERM or term is not None and not low <= term <= high:
            return None
        terms.append(term)
        # Entries stand behind `left`.
        low, high = 0, MOST
    if len(terms) != many + 1 or terms.count(None) == len(terms):
        return None
    return LifeRow(terms[0], terms[1:])


def type_words(life_type):
    """The needs, the results without kinds, and the ticks of a type, as words of a line tell them."""
    needs = [str(need) for need in life_type.needs]
    rows = [row_word(row) for row in life_type.rows]
    return needs + ["->"] + rows + [str(life_type.took)]


def row_word(row):
    """The word for a row, or None, of a result."""
    if row is None:
        return NO_ROW
    return ":".join([NO_TERM if term is None else str(term) for term in (row.left,) + row.lost])
