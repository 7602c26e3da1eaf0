"""Reading texts line by line, whatever their names and numbers are; the rules for programs come later."""

from sourwright.errors import InvalidText
from sourwright.forms import MOST_BODIES, is_sign, is_word

ARROW = "->"
# The numbers that are written most; the others are read digit by digit.
NUMBERS = {
    "-9": -9, "-8": -8, "-7": -7, "-6": -6, "-5": -5, "-4": -4, "-3": -3, "-2": -2, "-1": -1, "0": 0, "1": 1, "2": 2,
    "3": 3, "4": 4, "5": 5, "6": 6, "7": 7, "8": 8, "9": 9, "10": 10, "11": 11, "12": 12, "13": 13, "14": 14,
    "15": 15, "16": 16, "17": 17, "18": 18, "19": 19, "20": 20, "21": 21, "22": 22, "23": 23, "24": 24, "25": 25,
    "26": 26, "27": 27, "28": 28, "29": 29, "30": 30, "31": 31, "32": 32, "33": 33, "34": 34, "35": 35, "36": 36,
    "37": 37, "38": 38, "39": 39, "40": 40, "41": 41, "42": 42, "43": 43, "44": 44, "45": 45, "46": 46, "47": 47,
    "48": 48, "49": 49, "50": 50, "51": 51, "52": 52, "53": 53, "54": 54, "55": 55, "56": 56, "57": 57, "58": 58,
    "59": 59, "60": 60, "61": 61,
}


class Lines:
    """The lines of a text, passed one after another; `at` is the index of the next one.

    `seen` has the words that turned out to be names as keys.
    """

    def __init__(self, text):
        self.told = text.split("\n")
        self.at = 0
        self.seen = {}

    def pass_line(self, is_right):
        """Passes the next line, or raises if it is not right."""
        if not is_right:
            raise InvalidText(self.at)
        self.at += 1


def is_new_name(word, seen):
    """Whether a word can be a name; if so it is seen from now on."""
    if not is_word(word):
        return False
    seen[word] = True
    return True


def are_names(words, seen):
    """Whether all of these can be names."""
    for word in words:
        if word not in seen and not is_new_name(word, seen):
            return False
    return True


def number_of(word):
    """The integer of at most four digits that is written like this, or None."""
    if word in NUMBERS:
        return NUMBERS[word]
    digits = word[1:] if word[:1] == "-" else word
    if digits.isdigit() and digits[0] != "0" and len(digits) <= 4 and digits.isascii():
        return int(word)
    return None


def kind_told(words, seen):
    """The kind that these words write, or None; so it is for wells, dishes, and each form of step."""
    if len(words) != 3:
        return None
    _, name, told = words
    number = number_of(told)
    if number is None or name not in seen and not is_new_name(name, seen):
        return None
    return (name, number)


def well_told(words, seen):
    if len(words) != 4:
        return None
    _, name, kind, told = words
    number = number_of(told)
    return (name, kind, number) if number is not None and are_names((name, kind), seen) else None


def dish_told(words, seen):
    if len(words) != 5:
        return None
    _, name, needs, makes, told = words
    number = number_of(told)
    return (name, needs, makes, number) if number is not None and are_names((name, needs, makes), seen) else None


def pair_of(words, seen):
    if len(words) != 3:
        return None
    word, one, two = words
    if (one in seen or is_new_name(one, seen)) and (two in seen or is_new_name(two, seen)):
        return (word, one, two)
    return None


def mix_of(words, seen):
    if len(words) != 5:
        return None
    word, made, one, sign, two = words
    if not is_sign(sign) or not are_names((made, one, two), seen):
        return None
    return (word, made, sign, one, two)


def scale_of(words, seen):
    if len(words) != 4:
        return None
    word, made, one, told = words
    number = number_of(told)
    return (word, made, one, number) if number is not None and are_names((made, one), seen) else None


def dish_of(words, seen):
    return tuple(words) if len(words) == 4 and are_names(words[1:], seen) else None


def wait_of(words, _):
    number = number_of(words[1]) if len(words) == 2 else None
    return None if number is None else ("wait", number)


def call_of(words, seen):
    before, behind = around_arrow(words)
    if len(before) < 2 or not are_names(before[1:], seen) or not are_names(behind, seen):
        return None
    return ("call", before[1], tuple(before[2:]), tuple(behind))


def around_arrow(words):
    """The words before the first arrow of a line and those behind it; two empty lists if there is no arrow."""
    if ARROW not in words:
        return ([], [])
    at = words.index(ARROW)
    return (words[:at], words[at + 1:])


DECLARED = {"kind": kind_told, "well": well_told, "dish": dish_told}
STEPS = {
    "get": pair_of, "mix": mix_of, "scale": scale_of, "dish": dish_of, "copy": pair_of, "wait": wait_of, "put": pair_of,
    "take": pair_of, "call": call_of,
}


def read_program(text):
    """The kinds, wells, dishes and procedures that a text writes."""
    lines = Lines(text)
    kinds = read_declared(lines, "kind")
    wells = read_declared(lines, "well")
    dishes = read_declared(lines, "dish")
    return (kinds, wells, dishes, read_procedures(lines))


def read_declared(lines, word):
    """The kinds, wells or dishes that the next lines write, as far as they begin with this word."""
    found = []
    told, seen, at = lines.told, lines.seen, lines.at
    row_of = DECLARED[word]
    while at < len(told):
        words = told[at].split(" ")
        if words[0] != word:
            break
        row = row_of(words, seen)
        if row is None:
            raise InvalidText(at)
        found.append(row)
        at += 1
    lines.at = at
    return tuple(found)


def read_procedures(lines):
    """The procedures that all lines that are left write."""
    found = []
    while lines.at < len(lines.told):
        found.append(read_procedure(lines))
    return tuple(found)


def read_procedure(lines):
    """The procedure that the next lines write."""
    before, behind = around_arrow(lines.told[lines.at].split(" "))
    lines.pass_line(len(before) >= 2 and before[0] == "procedure" and are_names(before[1:2] + behind, lines.seen))
    params = []
    for word in before[2:]:
        param, _, kind = word.partition(":")
        if not are_names((param, kind), lines.seen):
            raise InvalidText(lines.at - 1)
        params.append((param, kind))
    return (before[1], tuple(params), tuple(behind), read_body(lines, "end", 0))


def read_body(lines, last, bodies):
    """The steps that the next lines write, within so many bodies; passes the line `last` behind them, too."""
    found = []
    told, seen, at = lines.told, lines.seen, lines.at
    while at < len(told):
        line = told[at]
        if line == last:
            lines.at = at + 1
            return tuple(found)
        words = line.split(" ")
        step_of = STEPS.get(words[0])
        if step_of is None:
            lines.at = at
            step = read_asking(lines, line, bodies)
            at = lines.at
        else:
            step = step_of(words, seen)
            if step is None:
                raise InvalidText(at)
            at += 1
        found.append(step)
    raise InvalidText(at)


def read_asking(lines, line, bodies):
    """The `if` or `while` that begins with the next line, which is this one, within so many bodies."""
    lines.pass_line(line in ("if", "while") and bodies < MOST_BODIES)
    if line == "while":
        return ("while", read_body(lines, "end", bodies + 1))
    yes = read_body(lines, "else", bodies + 1)
    return ("if", yes, read_body(lines, "end", bodies + 1))
