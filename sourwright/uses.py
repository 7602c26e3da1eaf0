"""What parts use: procedures of other parts, under life types that their lines tell."""

from sourwright.forms import is_within, is_word
from sourwright.lifetypes import LifeType
from sourwright.longest import MOST
from sourwright.reading import Lines, around_arrow, number_of, read_declared, read_procedures
from sourwright.rows import LifeRow

# What stands in a line for a row that is None, for a term that is None, and for ticks where no start is fresh.
NO_ROW = "sour"
NO_TERM = "-"
NEVER = "never"


class Use:
    """A procedure that a part uses: the kinds that it takes and gives, and the numbers of its type.

    `bounds` are rows, or None; `longest` are the ticks that it takes, or None for a type that is never.
    """

    def __init__(self, name, taken, given, least, bounds, longest):
        self.name = name
        self.taken = taken
        self.given = given
        self.least = least
        self.bounds = bounds
        self.longest = longest

    def life_type(self, keeps):
        """The type under which it is used, with these keeps of the kinds that it takes."""
        if self.longest is None:
            return LifeType.never(keeps, len(self.given))
        return LifeType(keeps, self.least, self.longest, self.bounds)


def read_part(text):
    """The name, kinds, wells, dishes, uses and procedures of the part that a text writes."""
    lines = Lines(text)
    words = lines.next_line().split(" ")
    lines.pass_line(len(words) == 2 and words[0] == "part" and is_word(words[1]))
    kinds = read_declared(lines, "kind")
    wells = read_declared(lines, "well")
    dishes = read_declared(lines, "dish")
    uses = read_uses(lines)
    return (words[1], kinds, wells, dishes, uses, read_procedures(lines))


def read_uses(lines):
    """The uses that the next lines write, as far as they begin like uses."""
    uses = []
    while lines.are_left():
        words = lines.next_line().split(" ")
        if words[0] != "use":
            break
        use = use_of(words)
        lines.pass_line(use is not None)
        uses.append(use)
    return tuple(uses)


def use_of(words):
    """The use that a line of these words writes, or None."""
    before, behind = around_arrow(words)
    if len(before) < 2 or len(behind) == 0 or not is_word(before[1]):
        return None
    params = [param_of(word) for word in before[2:]]
    results = [result_of(word, len(params)) for word in behind[:-1]]
    took = term_of(behind[-1], 0, MOST)
    if None in params or None in results or took is None and behind[-1] != NEVER:
        return None
    least = [need for _, need in params]
    bounds = [row for _, row in results]
    if took is None and (least != [MOST] * len(least) or bounds != [None] * len(bounds)):
        return None
    taken = tuple([kind for kind, _ in params])
    return Use(before[1], taken, tuple([kind for kind, _ in results]), least, bounds, took)


def param_of(word):
    """The kind and the need of a parameter that a word writes, or None."""
    parts = word.split(":")
    if len(parts) != 2 or not is_word(parts[0]):
        return None
    need = term_of(parts[1], -1, MOST)
    return None if need is None else (parts[0], need)


def result_of(word, many):
    """The kind and the row, with so many entries, of a result that a word writes, or None."""
    parts = word.split(":")
    if not is_word(parts[0]):
        return None
    if parts[1:] == [NO_ROW]:
        return (parts[0], None)
    terms = [term_of(part, -1, MOST - 1) for part in parts[1:2]] + [term_of(part, 0, MOST) for part in parts[2:]]
    lacking = [part == NO_TERM for part in parts[1:]]
    if len(terms) != many + 1 or all(lacking):
        return None
    if any([term is None and not is_lacking for term, is_lacking in zip(terms, lacking)]):
        return None
    return (parts[0], LifeRow(terms[0], terms[1:]))


def term_of(word, low, high):
    """The number from low to high that a word writes, or None."""
    number = number_of(word)
    return number if number is not None and is_within(number, low, high) else None


def type_words(life_type):
    """The needs, the results without kinds, and the ticks of a type, as words of a line tell them."""
    needs = [str(need) for need in life_type.needs]
    rows = [row_word(row) for row in life_type.rows]
    return needs + ["->"] + rows + [str(life_type.took)]


def row_word(row):
    """The word for a row, or None, of a result."""
    if row is None:
        return NO_ROW
    return ":".join([NO_TERM if term is None else str(term) for term in (row.left,) + row.lost])
