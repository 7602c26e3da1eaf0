"""Reading texts line by line, whatever their names and numbers are; the rules for programs come later."""

from sourwright.errors import InvalidText
from sourwright.forms import MOST_BODIES, is_sign, is_word

ARROW = "->"
# For each form of line how many words it has, which of them are names, and which is a number or a sign, or 0 for none.
DECLARED_LINES = {
    "kind": (3, (1,), 2, 0),
    "well": (4, (1, 2), 3, 0),
    "dish": (5, (1, 2, 3), 4, 0),
}
STEP_LINES = {
    "get": (3, (1, 2), 0, 0),
    "mix": (5, (1, 2, 4), 0, 3),
    "scale": (4, (1, 2), 3, 0),
    "dish": (4, (1, 2, 3), 0, 0),
    "copy": (3, (1, 2), 0, 0),
    "wait": (2, (), 1, 0),
    "put": (3, (1, 2), 0, 0),
    "take": (3, (1, 2), 0, 0),
}


class Lines:
    """The lines of a text, passed one after another; `seen` has the words that turned out to be names as keys."""

    def __init__(self, text):
        self.told = text.split("\n")
        self.at = 0
        self.seen = {}

    def are_left(self):
        """Whether there is a line that is not passed yet."""
        return self.at < len(self.told)

    def next_line(self):
        """The next line; where a line is missing, it is wrong."""
        if self.at >= len(self.told):
            raise InvalidText(self.at)
        return self.told[self.at]

    def pass_line(self, is_right):
        """Passes the next line, or raises if it is not right."""
        if not is_right:
            raise InvalidText(self.at)
        self.at += 1

    def are_words(self, names):
        """Whether all of these can be names."""
        for name in names:
            if name not in self.seen:
                if not is_word(name):
                    return False
                self.seen[name] = True
        return True

    def read_number(self, word):
        """The number that a word of the next line writes, or it raises."""
        number = number_of(word)
        if number is None:
            raise InvalidText(self.at)
        return number

    def pass_items(self, words, form):
        """Passes the next line, which must have these words in this form, and returns them with its number as one."""
        length, spots, number_at, sign_at = form
        if len(words) != length or sign_at and not is_sign(words[sign_at]):
            raise InvalidText(self.at)
        for spot in spots:
            if words[spot] not in self.seen and not self.are_words(words[spot:spot + 1]):
                raise InvalidText(self.at)
        if number_at:
            words[number_at] = self.read_number(words[number_at])
        self.at += 1
        return tuple(words)


def read_program(text):
    """The kinds, wells, dishes and procedures that a text writes."""
    lines = Lines(text)
    kinds = read_declared(lines, "kind")
    wells = read_declared(lines, "well")
    dishes = read_declared(lines, "dish")
    return (kinds, wells, dishes, read_procedures(lines))


def read_declared(lines, word):
    """The kinds, wells or dishes that the next lines write, as far as they begin with this word."""
    rows = []
    while lines.are_left():
        words = lines.next_line().split(" ")
        if words[0] != word:
            break
        rows.append(lines.pass_items(words, DECLARED_LINES[word])[1:])
    return tuple(rows)


def read_procedures(lines):
    """The procedures that all lines that are left write."""
    procedures = []
    while lines.are_left():
        procedures.append(read_procedure(lines))
    return tuple(procedures)


def read_procedure(lines):
    """The procedure that the next lines write."""
    before, behind = around_arrow(lines.next_line().split(" "))
    params = [tuple(word.split(":")) for word in before[2:]]
    is_head = len(before) >= 2 and before[0] == "procedure" and lines.are_words(before[1:2] + behind)
    lines.pass_line(is_head and all([len(pair) == 2 and lines.are_words(pair) for pair in params]))
    return (before[1], tuple(params), tuple(behind), read_body(lines, "end", 0))


def read_body(lines, last, bodies):
    """The steps that the next lines write, within so many bodies; passes the line `last` behind them, too."""
    found = []
    line = lines.next_line()
    while line != last:
        words = line.split(" ")
        if words[0] in STEP_LINES:
            items = lines.pass_items(words, STEP_LINES[words[0]])
            if words[0] == "mix":
                _, made, first, sign, second = items
                items = ("mix", made, sign, first, second)
            found.append(items)
        else:
            found.append(read_longer(lines, words, bodies))
        line = lines.next_line()
    lines.pass_line(True)
    return tuple(found)


def read_longer(lines, words, bodies):
    """The `if`, `while` or `call` that begins with the next line, of these words, within so many bodies."""
    word = words[0]
    if word == "call":
        return read_call(lines, words)
    lines.pass_line(word in ("if", "while") and len(words) == 1 and bodies < MOST_BODIES)
    if word == "while":
        return ("while", read_body(lines, "end", bodies + 1))
    yes = read_body(lines, "else", bodies + 1)
    return ("if", yes, read_body(lines, "end", bodies + 1))


def read_call(lines, words):
    """The call that the next line writes, of these words."""
    before, behind = around_arrow(words)
    lines.pass_line(len(before) >= 2 and lines.are_words(before[1:] + behind))
    return ("call", before[1], tuple(before[2:]), tuple(behind))


def around_arrow(words):
    """The words before the first arrow of a line and those behind it; two empty lists if there is no arrow."""
    if ARROW not in words:
        return ([], [])
    at = words.index(ARROW)
    return (words[:at], words[at + 1:])


def number_of(word):
    """The integer of at most four digits that is written like this, or None."""
    digits = word.removeprefix("-")
    if len(digits) > 4 or not digits.isascii() or not digits.isdigit():
        return None
    if digits[0] == "0" and word != "0":
        return None
    return int(word)
