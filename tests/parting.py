"""Texts of parts, drawn and put together, and a second way to read their lines of uses."""

import re

from oracle import HEAD, NUMBER, WORD, Oracle

from sourwright.errors import InvalidPart, InvalidProgram, InvalidText, LinkRefused, Unfilled
from sourwright.flow import check_sound
from sourwright.lifetypes import LifeType
from sourwright.lives import composed_type
from sourwright.parts import Part
from sourwright.programs import Program
from sourwright.rows import LifeRow
from sourwright.texts import declared_lines, procedure_lines


def kinds_given(program, name):
    return tuple(program[name].kind_of(result) for result in program[name].results)


def kinds_taken(program, name):
    return tuple(kind for _, kind in program[name].params)


def number(value):
    return "-" if value is None else str(value)


def use_line(name, taken, given, told):
    """The line of a use of a procedure with these kinds under a type."""
    words = ["use", name] + [f"{kind}:{need}" for kind, need in zip(taken, told.needs)] + ["->"]
    for kind, row in zip(given, told.rows):
        words.append(f"{kind}:sour" if row is None else ":".join([kind, number(row.left)] + [number(one) for one in row.lost]))
    return " ".join(words + ["never" if told.sours else str(told.took)])


def part_text(name, declared, uses, procedures):
    """The text of a part; `declared` are kinds, wells and dishes, `uses` lines."""
    lines = [f"part {name}"] + declared_lines(*declared) + list(uses)
    for given in procedures:
        lines += procedure_lines(given)
    return "\n".join(lines)


def declared(program):
    return (program.kinds, program.wells, program.dishes)


def called(program, name):
    """The names of the procedures called, in the order of the program."""
    found = set()

    def look(body):
        for step in body:
            if step[0] == "call":
                found.add(step[1])
            elif step[0] in ("if", "while"):
                for inner in step[1:]:
                    look(inner)

    look(program[name].body)
    return [given[0] for given in program.procedures if given[0] in found]


def looser(chance, told, by=2):
    """A type that is somewhat worse, or the same, in numbers that a line of a use may have."""
    if told.sours:
        return told
    if chance.random() < 0.05:
        return LifeType.never(told.keeps, len(told.rows))

    def more(value, most):
        return None if value is None else min(value + chance.choice((0, 0, 1, by)), most)

    rows = []
    for row in told.rows:
        if row is None or chance.random() < 0.05:
            rows.append(None)
            continue
        left = row.left if row.left is None else max(row.left - chance.choice((0, 0, 1, by)), -1)
        rows.append(LifeRow(left, [more(lost, 61) for lost in row.lost]))
    return LifeType(told.keeps, [more(need, 61) for need in told.needs], more(told.took, 61), rows)


def cut(chance, program, loosen=True):
    """The parts that a program is cut into, each with its uses under the types that are told, or somewhat worse ones."""
    names = [given[0] for given in program.procedures]
    cuts = sorted({0, len(names)} | {chance.randrange(len(names) + 1) for _ in range(2)})
    parts = []
    told = {}
    for at, (begin, end) in enumerate(zip(cuts, cuts[1:])):
        own = names[begin:end]
        used = [name for name in names[:begin] if any(name in called(program, one) for one in own)]
        chance.shuffle(used)
        lines = []
        for name in used:
            under = looser(chance, told[name]) if loosen else told[name]
            lines.append(use_line(name, kinds_taken(program, name), kinds_given(program, name), under))
        parts.append(Part.read(part_text("abc"[at], declared(program), lines, program.procedures[begin:end])))
        told.update(parts[-1].types())
    return tuple(parts)


# Lines of uses by patterns.

PARAM = re.compile(f"({WORD}):({NUMBER})")
RESULT = re.compile(f"({WORD}):(?:sour|(-|{NUMBER})((?::(?:-|{NUMBER}))*))")


def use_by_patterns(line):
    """The name, the kinds taken and given, and needs, rows as tuples, took or None, of a line of a use; None if it is none."""
    match = re.fullmatch(f"use ({WORD})((?: [^ ]+)*?) ->((?: [^ ]+)*) ({NUMBER}|never)", line)
    if not match:
        return None
    name, params, results, took = match.groups()
    taken = [PARAM.fullmatch(word) for word in params.split()]
    given = [RESULT.fullmatch(word) for word in results.split()]
    if None in taken or None in given:
        return None
    needs = [int(one.group(2)) for one in taken]
    rows = []
    for one in given:
        if one.group(2) is None:
            rows.append(None)
            continue
        terms = [None if word == "-" else int(word) for word in [one.group(2)] + one.group(3).split(":")[1:]]
        if len(terms) != len(needs) + 1 or all(term is None for term in terms):
            return None
        if not (terms[0] is None or -1 <= terms[0] <= 60) or not all(term is None or 0 <= term <= 61 for term in terms[1:]):
            return None
        rows.append(tuple(terms))
    if not all(-1 <= need <= 61 for need in needs):
        return None
    if took == "never":
        if any(need != 61 for need in needs) or any(row is not None for row in rows):
            return None
        longest = None
    else:
        longest = int(took)
        if not 0 <= longest <= 61:
            return None
    return name, [one.group(1) for one in taken], [one.group(1) for one in given], needs, rows, longest


# Parts by a second way: lines by patterns, and what is used as procedures of a program, which has more wells for them.


class PartOracle(Oracle):
    def __init__(self):
        super().__init__()
        self.name = None
        self.uses = []
        self.begun = False

    def take_outside(self, line):
        if self.name is None:
            match = re.fullmatch(f"part ({WORD})", line)
            self.name = match and match.group(1)
            return match is not None
        if self.section < 3 and line.split(" ")[0] == "use":
            self.begun = True
            self.uses.append(use_by_patterns(line))
            return self.uses[-1] is not None
        if self.begun and HEAD.fullmatch(line) is None:
            return False
        return super().take_outside(line)


def expected_part(text):
    """What the text of a part is expected to give: ("line", n), ("program", ..), ("use", index), ("unfilled", ..) or a tuple.

    The tuple begins with "part" and has the name, the tuples of kinds, wells, dishes and procedures, the dict of the
    types of uses, and the dict of plain types.
    """
    oracle = PartOracle()
    lines = text.split("\n")
    for index, line in enumerate(lines):
        if not oracle.take_line(line):
            return ("line", index)
    if oracle.stack:
        return ("line", len(lines))
    kinds, wells, dishes = [tuple(part) for part in oracle.parts]
    try:
        Program(kinds, wells, dishes, ())
    except InvalidProgram as error:
        return ("program", error.word, error.procedure, error.place)
    keeps = dict(kinds)
    types, stubs = {}, []
    for index, (name, taken, given, needs, rows, took) in enumerate(oracle.uses):
        if name in types or any(kind not in keeps for kind in taken + given):
            return ("use", index)
        of = tuple(keeps[kind] for kind in taken)
        bounds = [None if row is None else LifeRow(row[0], row[1:]) for row in rows]
        types[name] = LifeType.never(of, len(given)) if took is None else LifeType(of, needs, took, bounds)
        names = [f"zy{letter}" for letter in "abcdefghij"]
        body = tuple(("get", one, "zz" + chr(97 + list(keeps).index(kind))) for one, kind in zip(names, given))
        params = tuple((f"zx{letter}", kind) for letter, kind in zip("abcdefghij", taken))
        stubs.append((name, params, tuple(names[:len(given)]), body))
    more = tuple(("zz" + chr(97 + at), kind, 1) for at, kind in enumerate(keeps))
    used = dict(types)
    try:
        whole = Program(kinds, wells + more, dishes, tuple(stubs) + tuple(oracle.procedures))
        check_sound(whole)
    except InvalidProgram as error:
        return ("program", error.word, error.procedure - len(stubs), error.place)
    except Unfilled as error:
        return ("unfilled", error.procedure, error.place, error.carrier, len(error.answers))
    plain = {}
    for given in oracle.procedures:
        types[given[0]] = composed_type(whole, given[0], types)
        plain[given[0]] = types[given[0]].plain()
    return ("part", oracle.name, kinds, wells, dishes, tuple(oracle.procedures), used, plain)


def raised(call, *given):
    """The error that a call raises, as a tuple of its word and values, or None."""
    try:
        call(*given)
    except InvalidText as error:
        return ("line", error.line)
    except InvalidProgram as error:
        return ("program", error.word, error.procedure, error.place)
    except InvalidPart as error:
        return (error.word, error.index)
    except LinkRefused as error:
        return ("refused", error.part, error.used)
    except Unfilled as error:
        return ("unfilled", error.procedure, error.place, error.carrier, len(error.answers))
    return None


def told_part(text):
    """What reading gives, in the form of what is expected."""
    fault = raised(Part.read, text)
    if fault is not None:
        return fault
    part = Part.read(text)
    return ("part", part.name, part.kinds, part.wells, part.dishes, part.procedures, part.uses, part.types())
