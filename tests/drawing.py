"""Programs, code and types drawn by chance, for tests that hold the package against a second way."""

from sourwright.code import CodeProgram
from sourwright.errors import InvalidCode, InvalidProgram, Unfilled
from sourwright.flow import check_sound
from sourwright.lifetypes import LifeType
from sourwright.programs import Program
from sourwright.rows import LifeRow

NAMES = ("a", "b", "c", "d")
SHELVES = ("s", "t")


class Drawer:
    """Draws the procedures of a program one after another; `callees` are those drawn before."""

    def __init__(self, chance, kinds, wells, dishes):
        self.chance = chance
        self.kinds = kinds
        self.wells = wells
        self.dishes = dishes
        self.callees = []

    def procedure(self, name, size):
        """A procedure that is sound on the ways through it once; loops may still spoil it."""
        chance = self.chance
        params = tuple((one, chance.choice(self.kinds)[0]) for one in NAMES[:chance.choice((0, 1, 1, 2, 2, 3))])
        self.kind_by_name = dict(params)
        self.left = size
        filled, body = self.body({one for one, _ in params}, set(), 0)
        ready = sorted(filled[0])
        results = tuple(chance.choice(ready) for _ in range(chance.randrange(3))) if ready else ()
        made = (name, params, results, body)
        self.callees.append((name, tuple(kind for _, kind in params), tuple(self.kind_by_name[one] for one in results)))
        return made

    def body(self, filled, stored, depth):
        """A body that begins with these names and shelves filled, and those filled behind it."""
        steps = []
        for _ in range(self.chance.choice((0, 1, 2, 3, 3, 4, 5) if depth else (1, 2, 3, 4, 5, 6, 7))):
            if self.left <= 0:
                break
            self.left -= 1
            step = self.step(filled, stored, depth)
            if step is not None:
                steps.append(step)
        return (filled, stored), tuple(steps)

    def step(self, filled, stored, depth):
        """A step that can stand here, or None; changes what is filled."""
        chance = self.chance
        word = chance.choice((
            "get", "get", "mix", "mix", "scale", "dish", "dish", "copy", "wait", "put", "put", "take", "take",
            "if", "while", "call", "call",
        ))
        if word in ("if", "while"):
            return self.asking(word, filled, stored, depth)
        if word == "wait":
            return ("wait", chance.choice((1, 1, 2, 3, 5, chance.randrange(1, 61))))
        if word == "get":
            well, kind, _ = chance.choice(self.wells)
            return self.filling(kind, filled, lambda z: ("get", z, well))
        if word == "take":
            if not stored:
                return None
            shelf = chance.choice(sorted(stored))
            step = self.filling(self.kind_by_name[shelf], filled, lambda z: ("take", z, shelf))
            if step is not None:
                stored.discard(shelf)
            return step
        if word == "call":
            return self.call(filled)
        if not filled:
            return None
        x = chance.choice(sorted(filled))
        kind = self.kind_by_name[x]
        if word == "put":
            free = [one for one in SHELVES if one not in stored and self.kind_by_name.setdefault(one, kind) == kind]
            if not free:
                return None
            filled.discard(x)
            stored.add(free[0])
            return ("put", free[0], x)
        if word == "mix":
            y = chance.choice([one for one in sorted(filled) if self.kind_by_name[one] == kind])
            return self.filling(kind, filled, lambda z: ("mix", z, chance.choice("+-"), x, y))
        if word == "scale":
            return self.filling(kind, filled, lambda z: ("scale", z, x, chance.randrange(-9, 10)))
        if word == "copy":
            return self.filling(kind, filled, lambda z: ("copy", z, x))
        fitting = [dish for dish in self.dishes if dish[1] == kind]
        if not fitting:
            return None
        dish = chance.choice(fitting)
        return self.filling(dish[2], filled, lambda z: ("dish", z, dish[0], x))

    def filling(self, kind, filled, step_of):
        """A step that fills some name of this kind."""
        fitting = [one for one in NAMES if self.kind_by_name.get(one, kind) == kind]
        if not fitting:
            return None
        z = self.chance.choice(fitting)
        self.kind_by_name[z] = kind
        filled.add(z)
        return step_of(z)

    def asking(self, word, filled, stored, depth):
        if depth >= 3:
            return None
        (yes_filled, yes_stored), yes = self.body(set(filled), set(stored), depth + 1)
        if word == "while":
            return ("while", yes)
        (no_filled, no_stored), no = self.body(set(filled), set(stored), depth + 1)
        if yes_stored != no_stored:
            return None
        filled.clear()
        filled.update(yes_filled & no_filled)
        stored.clear()
        stored.update(yes_stored)
        return ("if", yes, no)

    def call(self, filled):
        if not self.callees:
            return None
        name, taken, given = self.chance.choice(self.callees)
        args = []
        for kind in taken:
            fitting = [one for one in sorted(filled) if self.kind_by_name[one] == kind]
            if not fitting:
                return None
            args.append(self.chance.choice(fitting))
        results = []
        for kind in given:
            fitting = [one for one in NAMES if self.kind_by_name.get(one, kind) == kind and one not in results]
            if not fitting:
                return None
            results.append(self.chance.choice(fitting))
            self.kind_by_name[results[-1]] = kind
        filled.update(results)
        return ("call", name, tuple(args), tuple(results))


def draw_declared(chance, most=12):
    """Kinds, wells and dishes; every kind has a well."""
    kinds = tuple((name, chance.randrange(most + 1)) for name in ("k", "l", "m")[:chance.choice((1, 2, 2, 3))])
    wells = tuple(("w" + name, name, chance.choice((1, 1, 2, 9))) for name, _ in kinds)
    dishes = tuple(
        (name, chance.choice(kinds)[0], chance.choice(kinds)[0], chance.choice((1, 2, 3, 9)))
        for name in ("e", "f")[:chance.randrange(3)]
    )
    return kinds, wells, dishes


def draw_any(chance, procedures=3, size=10, most=12):
    """A program, sound or not."""
    while True:
        kinds, wells, dishes = draw_declared(chance, most)
        drawer = Drawer(chance, kinds, wells, dishes)
        made = tuple(drawer.procedure(name, size) for name in ("p", "q", "r", "u", "v")[:procedures])
        try:
            return Program(kinds, wells, dishes, made)
        except InvalidProgram:
            # A name that a body of an if fills alone may get its kind too late.
            continue


def is_sound(program):
    try:
        return check_sound(program)
    except Unfilled:
        return False


def draw_sound(chance, procedures=3, size=10, most=12):
    """A sound program."""
    while True:
        program = draw_any(chance, procedures, size, most)
        if is_sound(program):
            return program


def shaken(chance, procedure):
    """A procedure with a step or an operand changed, so that it may be unsound."""
    name, params, results, body = procedure
    return (name, params, results, shaken_body(chance, body))


def shaken_body(chance, body):
    if not body:
        return body
    at = chance.randrange(len(body))
    step = body[at]
    if step[0] in ("if", "while") and chance.random() < 0.7:
        inner = list(step)
        part = chance.randrange(1, len(step))
        inner[part] = shaken_body(chance, inner[part])
        return body[:at] + (tuple(inner),) + body[at + 1:]
    way = chance.randrange(3)
    if way == 0:
        return body[:at] + body[at + 1:]
    if way == 1:
        other = chance.randrange(len(body))
        changed = list(body)
        changed[at], changed[other] = changed[other], changed[at]
        return tuple(changed)
    return body[:at] + (("while", (step,)),) + body[at + 1:]


# Code that follows a text step by step.


def code_of(program, chance=None):
    """The code of a program, with a row for each step, and jumps; every name has a cup of its own."""
    return CodeProgram(
        program.kinds, program.wells, program.dishes,
        tuple(code_procedure(program[given[0]], chance) for given in program.procedures),
    )


def code_procedure(procedure, chance=None):
    return Coder(procedure, chance).given()


class Coder:
    def __init__(self, procedure, chance):
        params = [name for name, _ in procedure.params]
        others = [name for name in procedure.names if name not in params]
        self.cups = {name: at for at, name in enumerate(params + others)}
        self.colds = {name: at for at, name in enumerate(procedure.shelves)}
        self.procedure = procedure
        self.chance = chance
        self.place = 0
        self.rows = []

    def given(self):
        self.add_body(self.procedure.body)
        self.rows.append(("end", tuple(self.cups[name] for name in self.procedure.results)))
        kinds = tuple(kind for _, kind in self.procedure.params)
        rows = tuple(self.rows)
        if self.chance is not None:
            rows = self.reordered(rows)
        return (self.procedure.name, kinds, rows)

    def add_body(self, body):
        for step in body:
            place = self.place
            self.place += 1
            if step[0] == "while":
                ask = len(self.rows)
                self.rows.append(None)
                self.add_body(step[1])
                self.rows.append(("jump", ask))
                self.rows[ask] = ("ask", len(self.rows))
            elif step[0] == "if":
                ask = len(self.rows)
                self.rows.append(None)
                self.add_body(step[1])
                over = len(self.rows)
                self.rows.append(None)
                self.rows[ask] = ("ask", len(self.rows))
                self.add_body(step[2])
                self.rows[over] = ("jump", len(self.rows))
            else:
                self.rows.append(self.row_of(step, place))

    def row_of(self, step, place):
        cups = self.cups
        word = step[0]
        if word == "get":
            return ("get", cups[step[1]], step[2], place)
        if word == "mix":
            return ("mix", cups[step[1]], step[2], cups[step[3]], cups[step[4]])
        if word == "scale":
            return ("scale", cups[step[1]], cups[step[2]], step[3])
        if word == "dish":
            return ("dish", cups[step[1]], step[2], cups[step[3]])
        if word == "copy":
            return ("copy", cups[step[1]], cups[step[2]])
        if word == "put":
            return ("put", self.colds[step[1]], cups[step[2]])
        if word == "take":
            return ("take", cups[step[1]], self.colds[step[2]])
        if word == "call":
            return ("call", step[1], tuple(cups[one] for one in step[2]), tuple(cups[one] for one in step[3]))
        return step

    def reordered(self, rows):
        """The same rows in blocks of another order, joined by jumps, with several ends where there are jumps to it."""
        rows = tuple(
            rows[-1] if row[0] == "jump" and row[1] == len(rows) - 1 and self.chance.random() < 0.5 else row
            for row in rows
        )
        cuts = sorted({0, len(rows)} | {self.chance.randrange(len(rows) + 1) for _ in range(3)})
        blocks = [list(range(begin, end)) for begin, end in zip(cuts, cuts[1:])]
        first, rest = blocks[0], blocks[1:]
        self.chance.shuffle(rest)
        order = []
        for block in [first] + rest:
            for at in block:
                order.append((at, rows[at]))
                # An ask goes on to the next row on yes, so that stays where it is or becomes a jump to it.
                if at == block[-1] and rows[at][0] not in ("jump", "end"):
                    order.append((None, ("jump", at + 1)))
        where = {at: spot for spot, (at, _) in enumerate(order) if at is not None}
        return tuple(
            (row[0], where[row[1]]) if row[0] in ("jump", "ask") else row for _, row in order
        )


def draw_code(chance, procedures=2, size=8, most=12):
    """A code program, sound or not, which breaks no rule of code."""
    while True:
        program = draw_any(chance, procedures, size, most)
        given = [Coder(program[one[0]], chance).given() for one in program.procedures]
        if chance.random() < 0.8:
            at = chance.randrange(len(given))
            given[at] = given[at][:2] + (shaken_rows(chance, given[at][2]),)
        try:
            return CodeProgram(program.kinds, program.wells, program.dishes, tuple(given))
        except InvalidCode:
            continue


def shaken_rows(chance, rows):
    """Rows with some cups, cold places or targets changed."""
    changed = list(rows)
    for _ in range(chance.choice((1, 1, 2, 4))):
        at = chance.randrange(len(changed))
        row = list(changed[at])
        spots = [k for k in range(1, len(row)) if isinstance(row[k], int) and row[0] not in ("wait", "scale", "get")]
        if row[0] in ("scale", "get"):
            spots = [1]
        if spots:
            spot = chance.choice(spots)
            row[spot] = chance.randrange(len(rows)) if row[0] in ("ask", "jump") else chance.randrange(4)
        changed[at] = tuple(row)
    return tuple(changed)


# Rows and types.


def draw_row(chance, params, most=61):
    while True:
        left = chance.choice((None, chance.randrange(-1, 61), chance.randrange(-1, min(most, 60) + 1)))
        lost = tuple(chance.choice((None, chance.randrange(most + 1), chance.randrange(62))) for _ in range(params))
        if left is not None or any(entry is not None for entry in lost):
            return LifeRow(left, lost)


def draw_type(chance, keeps, results, most=8):
    """A type with these keeps and this number of results, as such types may be, not only exact ones."""
    needs = tuple(chance.choice((-1, 0, keep, chance.randrange(-1, keep + 1), chance.randrange(-1, keep + 2)))
                  for keep in keeps)
    took = chance.choice((0, 1, 59, 60, 61, chance.randrange(62)))
    rows = tuple(
        None if chance.random() < 0.15 else draw_row(chance, len(keeps), most) for _ in range(results)
    )
    return LifeType(keeps, needs, took, rows, sours=chance.random() < 0.05)
