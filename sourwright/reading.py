"""Reading texts line by line, whatever their names and numbers are; the rules for programs come later."""

from sourwright.errors import InvalidText
from sourwright.forms import MOST_BODIES, is_sign, is_word

ARROW = "->"
DIGITS = "0123456789"
# The parts that stand behind the first word of a line.
DECLARED_LINES = {
    "kind": ("word", "number"),
    "well": ("word", "word", "number"),
    "dish": ("word", "word", "word", "number"),
}
STEP_LINES = {
    "get": ("word", "word"),
    "mix": ("word", "word", "sign", "word"),
    "scale": ("word", "word", "number"),
    "dish": ("word", "word", "word"),
    "copy": ("word", "word"),
    "wait": ("number",),
    "put": ("word", "word"),
    "take": ("word", "word"),
}


class Lines:
    """The lines of a text, passed one after another."""

    def __init__(self, text):
        self.told = text.split("\n")
        self.at = 0

    def are_left(self):
        """Whether there is a line that is not passed yet."""
        return self.at < len(self.told)

    def words(self):
        """The words of the next line; where a line is missing, it is wrong."""
        if not self.are_left():
            raise InvalidText(self.at)
        return self.told[self.at].split(" ")

    def pass_line(self, is_right):
        """Passes the next line, or raises if it is not right."""
        if not is_right:
            raise InvalidText(self.at)
        self.at += 1

    def pass_items(self, parts):
        """Passes the next line, which must have these parts behind its first word, and returns what they write."""
        items = items_of(self.words()[1:], parts)
        self.pass_line(items is not None)
        return items


def read_program(text):
    """The kinds, wells, dishes and procedures that a text writes."""
    lines = Lines(text)
    kinds = read_declared(lines, "kind")
    wells = read_declared(lines, "well")
    dishes = read_declared(lines, "dish")
    return (kinds, wells, dishes, read_procedures(lines))


def read_declared(lines, word):
    """The kinds, wells or dishes that the next lines write, as far as they begin with this word."""
    rows = []
    while lines.are_left() and lines.words()[0] == word:
        rows.append(lines.pass_items(DECLARED_LINES[word]))
    return tuple(rows)


def read_procedures(lines):
    """The procedures that all lines that are left write."""
    procedures = []
    while lines.are_left():
        procedures.append(read_procedure(lines))
    return tuple(procedures)


def read_procedure(lines):
    """The procedure that the next lines write."""
    before, behind = around_arrow(lines.words())
    params = [param_of(word) for word in before[2:]]
    is_head = len(before) >= 2 and before[0] == "procedure" and is_word(before[1])
    lines.pass_line(is_head and None not in params and are_words(behind))
    return (before[1], tuple(params), tuple(behind), read_body(lines, "end", 0))


def read_body(lines, last, bodies):
    """The steps that the next lines write, within so many bodies; passes the line `last` behind them, too."""
    found = []
    while lines.words() != [last]:
        found.append(read_step(lines, bodies))
    lines.pass_line(True)
    return tuple(found)


def read_step(lines, bodies):
    """The step that the next lines write, within so many bodies."""
    words = lines.words()
    word = words[0]
    if word in ("if", "while"):
        lines.pass_line(len(words) == 1 and bodies < MOST_BODIES)
        return read_asking(lines, word, bodies + 1)
    if word == "call":
        return read_call(lines)
    if word not in STEP_LINES:
        raise InvalidText(lines.at)
    items = lines.pass_items(STEP_LINES[word])
    if word == "mix":
        made, first, sign, second = items
        return ("mix", made, sign, first, second)
    return (word,) + items


def read_asking(lines, word, bodies):
    """The `if` or `while` whose first line is passed; `bodies` counts those around the steps in it."""
    if word == "while":
        return ("while", read_body(lines, "end", bodies))
    yes = read_body(lines, "else", bodies)
    return ("if", yes, read_body(lines, "end", bodies))


def read_call(lines):
    """The call that the next line writes."""
    before, behind = around_arrow(lines.words())
    lines.pass_line(len(before) >= 2 and are_words(before[1:]) and are_words(behind))
    return ("call", before[1], tuple(before[2:]), tuple(behind))


def around_arrow(words):
    """The words before the first arrow of a line and those behind it; two empty lists if there is no arrow."""
    if ARROW not in words:
        return ([], [])
    at = words.index(ARROW)
    return (words[:at], words[at + 1:])


def are_words(names):
    """Whether all of these can be names."""
    return all([is_word(name) for name in names])


def param_of(word):
    """The name and the kind of a parameter, or None if it is not written like that."""
    pair = tuple(word.split(":"))
    if len(pair) != 2 or not are_words(pair):
        return None
    return pair


def items_of(words, parts):
    """What these words write, or None if they are not of these parts."""
    if len(words) != len(parts):
        return None
    items = [item_of(word, part) for word, part in zip(words, parts)]
    if None in items:
        return None
    return tuple(items)


def item_of(word, part):
    """What a word writes as this part, or None."""
    if part == "number":
        return number_of(word)
    if part == "sign":
        return word if is_sign(word) else None
    return word if is_word(word) else None


def number_of(word):
    """The integer of at most four digits that is written like this, or None."""
    digits = word.removeprefix("-")
    if not 1 <= len(digits) <= 4 or not all([digit in DIGITS for digit in digits]):
        return None
    if digits[0] == "0" and word != "0":
        return None
    return int(word)
