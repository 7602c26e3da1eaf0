"""Location tables (point [39])."""

import random
import unittest

from drawing import code_of, draw_sound, is_sound
from samples import DAIRY, FULL
from second import Shape
from second_code import reshaped, table_is_right

from sourwright.code import CodeProgram
from sourwright.compiling import compiled
from sourwright.errors import InvalidCode
from sourwright.locations import locations_hold
from sourwright.programs import Program
from sourwright.world import World

KINDS = (("m", 60), ("n", 60))
WELLS = (("w", "m", 1), ("v", "m", 1), ("u", "n", 2))
DISHES = (("d", "m", "n", 2), ("e", "m", "n", 2))
TWO = ("two", (("x", "m"), ("y", "m")), ("x", "y"), ())
ONE = ("one", (("x", "m"), ("y", "m")), ("x",), ())
MOVING = ("copy", "put", "take", "jump")


def text_of(*body, params=(("x", "m"), ("y", "m")), results=(), before=()):
    return Program(KINDS, WELLS, DISHES, tuple(before) + (("p", params, results, body),))


def code_with(*rows, params=("m", "m"), before=()):
    return CodeProgram(KINDS, WELLS, DISHES, tuple(before) + (("p", params, rows),))


def pairs(words):
    """The pairs of a carrier and where it lies, as words with colons between."""
    return tuple(tuple(word.split(":")) for word in words.split())


def table(*entries):
    """A table of pairs of a place and words."""
    return tuple((place, pairs(words)) for place, words in entries)


class Checks(unittest.TestCase):
    def check(self, expected, program, code, value, name="p"):
        self.assertIs(locations_hold(program, code, name, value), expected)
        self.assertIs(table_is_right(program, code, name, value), expected)


class StepsTest(Checks):
    """Rows that carry out a step, and such that do so otherwise."""

    CASES = (
        (("get", "x", "w"), ("get", 0, "w", 0),
         (("get", 0, "v", 0), ("get", 0, "w", 1), ("get", 1, "w", 0), ("wait", 1), ("copy", 0, 1), ("get", 0, "u", 0))),
        (("mix", "x", "-", "x", "y"), ("mix", 0, "-", 0, 1),
         (("mix", 0, "+", 0, 1), ("mix", 0, "-", 1, 0), ("mix", 0, "-", 0, 0), ("mix", 1, "-", 0, 1), ("scale", 0, 0, 1))),
        (("scale", "x", "y", -3), ("scale", 0, 1, -3), (("scale", 0, 1, 3), ("scale", 0, 0, -3), ("scale", 1, 1, -3))),
        (("wait", 4), ("wait", 4), (("wait", 3), ("get", 2, "w", 0), ("scale", 2, 1, 4))),
        (("call", "two", ("x", "y"), ("y", "x")), ("call", "two", (0, 1), (1, 0)),
         (("call", "two", (1, 0), (1, 0)), ("call", "two", (0, 1), (0, 1)), ("call", "two", (0, 0), (1, 0)))),
    )
    BEFORE = (TWO, ONE)
    CODE_BEFORE = (("two", ("m", "m"), (("end", (0, 1)),)), ("one", ("m", "m"), (("end", (0,)),)))

    def test_rows_and_steps(self):
        right = table((0, "x:c0 y:c1"), (1, "x:c0 y:c1"))
        for step, row, others in self.CASES:
            program = text_of(step, results=("x", "y"), before=self.BEFORE)
            self.check(True, program, code_with(row, ("end", (0, 1)), before=self.CODE_BEFORE), right)
            for other in others:
                self.check(False, program, code_with(other, ("end", (0, 1)), before=self.CODE_BEFORE), right)

    def test_dishes(self):
        program = text_of(("dish", "z", "d", "x"), results=("z",))
        right = table((0, "x:c0 y:c1"), (1, "z:c2"))
        for row, expected in (
            (("dish", 2, "d", 0), True), (("dish", 2, "e", 0), False), (("dish", 2, "d", 1), False),
            (("dish", 1, "d", 0), False), (("get", 2, "u", 0), False),
        ):
            self.check(expected, program, code_with(row, ("end", (2,))), right)
        self.check(True, program, code_with(("dish", 0, "d", 0), ("end", (0,))), table((0, "x:c0 y:c1"), (1, "z:c0 y:c1")))

    def test_procedures_called(self):
        program = text_of(("call", "two", ("x", "y"), ("y", "x")), before=self.BEFORE)
        right = table((0, "x:c0 y:c1"), (1, ""))
        code = code_with(("call", "one", (0, 1), (1,)), ("end", ()), before=self.CODE_BEFORE)
        self.check(False, program, code, right)
        # A procedure of the same name with other numbers of arguments or results.
        for before, row in (
            ((("two", ("m", "m"), (("end", (0,)),)),), ("call", "two", (0, 1), (1,))),
            ((("two", ("m",), (("end", (0, 0)),)),), ("call", "two", (0,), (1, 0))),
            ((("two", ("m", "m", "m"), (("end", (0, 0)),)),), ("call", "two", (0, 1, 1), (1, 0))),
        ):
            self.check(False, program, code_with(row, ("end", ()), before=before), right)
        before = (("two", ("m", "m"), (("end", (1, 1)),)),)
        self.check(True, program, code_with(("call", "two", (0, 1), (1, 0)), ("end", ()), before=before), right)

    def test_ends(self):
        program = text_of(results=("y", "x", "y"))
        for cups, expected in (((1, 0, 1), True), ((0, 1, 0), False), ((1, 0), False), ((1, 0, 1, 1), False), ((1, 0, 0), False)):
            self.check(expected, program, code_with(("end", cups)), table((0, "x:c0 y:c1")))
        self.check(False, program, code_with(("end", (1, 0, 1))), table((0, "x:c0")))
        # The end is only carried out at the exit.
        self.check(False, text_of(("wait", 1)), code_with(("end", ())), table((0, "")))
        self.check(False, text_of(), code_with(("wait", 1), ("end", ())), table((0, ""), (0, "")))

    def test_asks(self):
        yes, no = ("wait", 1), ("wait", 2)
        program = text_of(("if", (yes,), (no,)))
        rows = (("ask", 3), yes, ("jump", 4), no, ("end", ()))
        right = table((0, ""), (1, ""), (3, ""), (2, ""), (3, ""))
        self.check(True, program, code_with(*rows), right)
        self.check(False, program, code_with(("ask", 3), no, ("jump", 4), yes, ("end", ())), right)
        swapped = table((0, ""), (2, ""), (3, ""), (1, ""), (3, ""))
        self.check(False, program, code_with(("ask", 3), no, ("jump", 4), yes, ("end", ())), swapped)
        self.check(False, text_of(yes), code_with(("ask", 1), ("end", ())), table((0, ""), (1, "")))
        self.check(True, text_of(("if", (), ())), code_with(("ask", 1), ("end", ())), table((0, ""), (1, "")))
        self.check(True, text_of(("while", ())), code_with(("ask", 2), ("jump", 0), ("end", ())), table((0, ""), (0, ""), (1, "")))
        self.check(False, text_of(("while", ())), code_with(("ask", 1), ("end", ())), table((0, ""), (1, "")))
        self.check(False, text_of(("if", (), ())), code_with(("ask", 2), ("jump", 0), ("end", ())), table((0, ""), (0, ""), (1, "")))


class PairsTest(Checks):
    """What moves and silent steps do to pairs."""

    def test_a_row_removes_what_it_fills(self):
        program = text_of(("get", "z", "w"), results=("x",))
        rows = (("get", 0, "w", 0), ("end", (0,)))
        self.check(False, program, code_with(*rows), table((0, "x:c0"), (1, "x:c0")))
        self.check(True, program, code_with(("get", 1, "w", 0), rows[1]), table((0, "x:c0"), (1, "x:c0 z:c1")))
        program = text_of(("get", "x", "w"), results=("x",))
        rows = (("copy", 2, 0), ("get", 1, "w", 0), ("end", (2,)))
        # The elder value of x lies in cups 0 and 2.
        self.check(False, program, code_with(*rows), table((0, "x:c0"), (0, "x:c2"), (1, "x:c2")))
        self.check(False, program, code_with(*rows[:2], ("end", (0,))), table((0, "x:c0"), (0, "x:c0"), (1, "x:c0")))
        self.check(True, program, code_with(*rows[:2], ("end", (1,))), table((0, "x:c0"), (0, "x:c2"), (1, "x:c1")))

    def test_copies_of_rows(self):
        program = text_of(results=("x",))
        for rows, entries, expected in (
            ((("copy", 2, 0),), ("x:c0", "x:c0 x:c2"), True),
            ((("copy", 2, 0),), ("x:c0 y:c1", "y:c1 x:c2"), True),
            ((("copy", 1, 0),), ("x:c0 y:c1", "x:c1 y:c1"), False),
            ((("copy", 1, 0),), ("x:c0 y:c1", "x:c1 x:c0"), True),
            ((("copy", 0, 0),), ("x:c0", "x:c0"), True),
            ((("copy", 0, 1),), ("x:c0", "x:c0"), False),
            ((("copy", 0, 1),), ("y:c1", "y:c0 y:c1"), True),
        ):
            cups = [pair[1] for pair in pairs(entries[1]) if pair[0] == "x"]
            end = ("end", (int(cups[0][1:]),)) if cups else ("end", (0,))
            is_there = len(cups) > 0
            value = table((0, entries[0]), (0, entries[1]))
            self.check(expected and is_there, program, code_with(*rows, end), value)

    def test_puts_and_takes_of_rows(self):
        program = text_of(results=("x",))
        rows = (("put", 4, 0), ("take", 3, 4), ("end", (3,)))
        for entries, expected in (
            (("x:c0", "x:p4", "x:c3"), True), (("x:c0", "x:c0", "x:c3"), False), (("x:c0", "x:p4", "x:p4 x:c3"), False),
            (("x:c0", "x:p4", "x:c0 x:c3"), False), (("x:c0", "x:p3", "x:c3"), False), (("x:c0", "", "x:c3"), False),
            (("x:c0 y:c1", "y:c1 x:p4", "x:c3 y:c1"), True),
        ):
            self.check(expected, program, code_with(*rows), table(*[(0, words) for words in entries]))
        # What a take fills is no longer what it was.
        rows = (("put", 4, 0), ("take", 1, 4), ("end", (1,)))
        self.check(False, program, code_with(*rows), table((0, "x:c0 y:c1"), (0, "x:p4 y:c1"), (0, "x:c1 y:c1")))

    def test_silent_copies(self):
        program = text_of(("copy", "y", "x"), results=("y", "x"))
        self.check(True, program, code_with(("end", (0, 0))), table((1, "x:c0 y:c0")))
        self.check(False, program, code_with(("end", (1, 0))), table((1, "x:c0 y:c1")))
        self.check(False, program, code_with(("end", (0, 0))), table((0, "x:c0 y:c0")))
        program = text_of(("copy", "x", "x"), results=("x",))
        self.check(True, program, code_with(("end", (0,))), table((1, "x:c0")))

    def test_silent_puts_and_takes(self):
        program = text_of(("put", "s", "x"), ("wait", 9), ("take", "y", "s"), results=("y",))
        for rows, value, expected in (
            ((("wait", 9), ("end", (0,))), ((1, "s:c0"), (3, "y:c0")), True),
            ((("wait", 9), ("end", (0,))), ((1, "x:c0"), (3, "y:c0")), False),
            ((("wait", 9), ("end", (0,))), ((1, "s:c0"), (3, "s:c0 y:c0")), False),
            ((("wait", 9), ("end", (1,))), ((1, "s:c0 y:c1"), (3, "y:c1")), False),
            ((("put", 2, 0), ("wait", 9), ("take", 1, 2), ("end", (1,))),
             ((0, "x:c0"), (1, "s:p2"), (2, "s:p2"), (3, "y:c1")), True),
            ((("put", 2, 0), ("wait", 9), ("take", 1, 2), ("end", (1,))),
             ((0, "x:c0"), (1, "s:p2"), (3, "y:p2"), (3, "y:c1")), True),
            ((("wait", 9), ("put", 2, 0), ("take", 1, 2), ("end", (1,))),
             ((1, "s:c0"), (2, "s:c0"), (2, "s:p2"), (3, "y:c1")), True),
            # A moving row keeps the place, but behind it silent steps are passed.
            ((("wait", 9), ("put", 2, 0), ("take", 1, 2), ("end", (1,))),
             ((1, "s:c0"), (2, "s:c0"), (3, "y:p2"), (3, "y:c1")), True),
            ((("wait", 9), ("put", 2, 0), ("take", 1, 2), ("end", (1,))),
             ((1, "s:c0"), (3, "y:c0"), (2, "s:p2"), (3, "y:c1")), False),
        ):
            self.check(expected, program, code_with(*rows), table(*value))

    def test_silent_steps_around_loops(self):
        loop = (("copy", "y", "x"), ("put", "s", "x"), ("take", "x", "s"))
        program = text_of(("while", loop), results=("x", "y"))
        rows = (("ask", 2), ("jump", 0), ("end", (0, 1)))
        self.check(False, program, code_with(*rows), table((0, "x:c0 y:c1"), (0, "x:c0 y:c1"), (4, "x:c0 y:c1")))
        rows = (("ask", 3), ("copy", 1, 0), ("jump", 0), ("end", (0, 1)))
        for value, expected in (
            (((0, "x:c0 y:c1"), (1, "x:c0"), (1, "x:c0 x:c1"), (4, "x:c0 y:c1")), True),
            (((0, "x:c0 y:c1"), (2, "x:c0"), (2, "x:c0 x:c1"), (4, "x:c0 y:c1")), False),
            (((0, "x:c0 y:c1"), (2, "x:c0"), (1, "x:c0 x:c1"), (4, "x:c0 y:c1")), False),
            (((0, "x:c0 y:c1"), (1, "x:c0"), (0, "x:c0 y:c0"), (4, "x:c0 y:c1")), False),
        ):
            self.check(expected, program, code_with(*rows), table(*value))
        program = text_of(("while", loop[1:]), results=("x",))
        rows = (("ask", 2), ("jump", 0), ("end", (0,)))
        for place in (0, 1, 2):
            words = "s:c0" if place == 2 else "x:c0"
            self.check(True, program, code_with(*rows), table((0, "x:c0"), (place, words), (3, "x:c0")))

    def test_the_start(self):
        program = text_of(("copy", "z", "x"), ("wait", 1), results=("z", "y"))
        rows = (("wait", 1), ("end", (0, 1)))
        for words, expected in (("x:c0 y:c1", False), ("z:c0 y:c1", True), ("z:c0", False), ("z:c1 y:c0", False), ("y:c1 x:c0 z:c0", True)):
            self.check(expected, program, code_with(*rows), table((1, words), (2, "z:c0 y:c1")))
        self.check(False, program, code_with(*rows), table((0, "x:c0 y:c1"), (2, "z:c0 y:c1")))


class FormsTest(Checks):
    CODE, TABLES = compiled(DAIRY)
    TABLE = TABLES[0]

    def test_a_list_for_the_tuple(self):
        self.assertIs(locations_hold(DAIRY, self.CODE, "make", list(self.TABLE)), True)
        self.assertIs(locations_hold(value=self.TABLE, name="make", code=self.CODE, program=DAIRY), True)

    def test_values_of_other_forms(self):
        self.check(True, DAIRY, self.CODE, self.TABLE, "make")
        for value in (
            None, 0, "", "table", (), True, self.TABLE[:-1], self.TABLE + self.TABLE[-1:], self.TABLE[0], ((),) * 6,
            (0,) * 6, ("ab",) * 6, tuple(entry + ((),) for entry in self.TABLE), tuple(entry[:1] for entry in self.TABLE),
            tuple(entry[::-1] for entry in self.TABLE), tuple((place, None) for place, _ in self.TABLE),
        ):
            self.check(False, DAIRY, self.CODE, value, "make")

    def test_entries_of_other_forms(self):
        for at, (place, told) in enumerate(self.TABLE):
            for entry in (
                (-1, told), (5, told), (99, told), (str(place), told), (None, told), (place == 1, told), (place, None),
                (place, told + (("x", "c16"),)), (place, told + (("x", "c01"),)), (place, told + (("x", "d0"),)),
                (place, told + (("x", "c"),)), (place, told + (("x", ""),)), (place, told + (("x", 0),)),
                (place, told + (("x", "c-1"),)), (place, told + (("x", " c0"),)), (place, told + (("x", "cc"),)),
                (place, told + (("q", "c0"),)), (place, told + (("", "c0"),)), (place, told + ((0, "c0"),)),
                (place, told + (("x",),)), (place, told + (("x", "c3", "c4"),)), (place, told + ("xc",)),
                (place, told + (None,)), (place, told + told + (("x", "c9"),) * 2), (place, told + ((("x",), "c0"),)),
            ):
                value = self.TABLE[:at] + (entry,) + self.TABLE[at + 1:]
                self.check(False, DAIRY, self.CODE, value, "make")

    def test_pairs_in_any_order(self):
        value = ((0, (("b", "c1"), ("a", "c0"))), (1, (("c", "c0"),)))
        self.check(True, DAIRY, self.CODE, value, "blend")
        self.check(False, DAIRY, self.CODE, ((0, (("b", "c1"), ("a", "c0"), ("a", "c0"))), value[1]), "blend")

    def test_names_and_kinds(self):
        self.check(False, DAIRY, self.CODE, self.TABLE, "nope")
        other = Program(DAIRY.kinds, DAIRY.wells, DAIRY.dishes, DAIRY.procedures[:1])
        self.check(False, other, self.CODE, self.TABLES[1], "blend")
        self.check(False, DAIRY, CodeProgram(DAIRY.kinds, DAIRY.wells, DAIRY.dishes, self.CODE.procedures[:1]), self.TABLES[1], "blend")
        for params, rows in (
            (("curd",), (("end", ()),)), (("milk", "milk"), (("end", ()),)), ((), (("end", ()),)), (("milk",), (("end", ()),)),
        ):
            program = Program(DAIRY.kinds, (), (), (("p", (("x", "milk"),), (), ()),))
            code = CodeProgram(DAIRY.kinds, (), (), (("p", params, rows),))
            self.check(params == ("milk",), program, code, ((0, ()),))

    def test_every_change_of_a_small_table(self):
        # Each entry otherwise: another place, a pair less, a pair more, two entries exchanged.
        code, tables = compiled(FULL)
        for (name, *_), told in zip(FULL.procedures, tables):
            self.check(True, FULL, code, told, name)
            changed = []
            for at, (place, given) in enumerate(told):
                changed += [(at, (other, given)) for other in range(len(FULL[name]) + 1) if other != place]
                changed += [(at, (place, given[:k] + given[k + 1:])) for k in range(len(given))]
                changed += [(at, (place, given + ((one, f"c{cup}"),))) for one in FULL[name].names for cup in (0, 1, 5)]
                changed += [(at, (place, given + ((one, "p0"),))) for one in FULL[name].shelves + FULL[name].names]
            for at, entry in changed:
                value = told[:at] + (entry,) + told[at + 1:]
                self.check(table_is_right(FULL, code, name, value), FULL, code, value, name)
            for at in range(len(told) - 1):
                value = told[:at] + (told[at + 1], told[at]) + told[at + 2:]
                self.check(table_is_right(FULL, code, name, value), FULL, code, value, name)


class DrawnTest(Checks):
    def test_tables_of_drawn_code(self):
        chance = random.Random(31)
        counts = {True: 0, False: 0}
        for _ in range(90):
            program = draw_sound(chance, size=chance.choice((5, 9, 14)))
            code, tables = compiled(program, cups=16, cold=16)
            code, tables = reshaped(chance, code, tables)
            for (name, *_), told in zip(program.procedures, tables):
                self.check(True, program, code, told, name)
                for _ in range(8):
                    value = self.changed(chance, program[name], told)
                    expected = table_is_right(program, code, name, value)
                    self.check(expected, program, code, value, name)
                    counts[expected] += 1
        self.assertGreater(counts[True], 100)
        self.assertGreater(counts[False], 700)

    def changed(self, chance, procedure, told):
        at = chance.randrange(len(told))
        place, given = told[at]
        way = chance.randrange(5)
        carrier = chance.choice(procedure.names + procedure.shelves + ("zz",))
        where = chance.choice("cp") + str(chance.randrange(4))
        if way == 0:
            entry = (place, given[:-1])
        elif way == 1:
            entry = (place, given + ((carrier, where),))
        elif way == 2:
            entry = (chance.randrange(len(procedure) + 1), given)
        elif way == 3:
            entry = (place, tuple(chance.sample(given, len(given))))
        else:
            entry = told[chance.randrange(len(told))]
        return told[:at] + (entry,) + told[at + 1:]

    def test_code_with_one_row_otherwise(self):
        chance = random.Random(32)
        wrong = 0
        for _ in range(120):
            program = draw_sound(chance, size=10)
            code, tables = compiled(program, cups=16, cold=16)
            at = chance.randrange(len(code.procedures))
            name, params, rows = code.procedures[at]
            spot = chance.randrange(len(rows))
            row = list(rows[spot])
            numbers = [k for k in range(1, len(row)) if isinstance(row[k], int)]
            if not numbers:
                continue
            row[chance.choice(numbers)] = chance.randrange(5)
            changed = (name, params, rows[:spot] + (tuple(row),) + rows[spot + 1:])
            try:
                other = CodeProgram(code.kinds, code.wells, code.dishes, code.procedures[:at] + (changed,) + code.procedures[at + 1:])
            except InvalidCode:
                continue
            expected = table_is_right(program, other, name, tables[at])
            self.check(expected, program, other, tables[at], name)
            wrong += not expected
        self.assertGreater(wrong, 40)

    def test_code_that_follows_the_text_has_tables(self):
        chance = random.Random(33)
        for _ in range(30):
            program = draw_sound(chance, size=8)
            for code in (code_of(program), code_of(program, chance)):
                for (name, *_) in program.procedures:
                    # Too many pairs are told where the text leaves values that are not wanted.
                    value = tuple((0, ()) for _ in code[name].rows)
                    self.check(table_is_right(program, code, name, value), program, code, value, name)

    def test_procedures_of_sixty_steps(self):
        chance = random.Random(34)
        inner = tuple(("mix", "a", "+", "a", "b") if at % 3 else ("copy", "c", "a") for at in range(10))
        body = (("while", (("if", inner, inner), ("while", inner)) + inner), ("get", "c", "w")) + inner
        program = text_of(*body, params=(("a", "m"), ("b", "m"), ("c", "m")), results=("a", "c"))
        self.assertGreater(len(program["p"]), 50)
        code, tables = compiled(program)
        self.check(True, program, code, tables[0])
        code, tables = reshaped(chance, code, tables, 4)
        self.check(True, program, code, tables[0])


class SameRunsTest(unittest.TestCase):
    """Text and code with tables that hold carry out the same, as long as nothing sours."""

    def check_runs(self, program, code, tables, name, answers):
        table_by_name = {given[0]: told for given, told in zip(program.procedures, tables)}
        keeps = dict(program.kinds)
        lives = tuple(keeps[kind] for _, kind in program[name].params)
        worths = tuple(range(2, 2 + len(lives)))
        runs = []
        asked = ([], [])
        for at, one in enumerate((program, code)):
            def supply(*given):
                asked[at].append(given)
                return hash(given) % 50

            world = World(one, name, lives, worths=worths, supply=supply)
            told = []
            while True:
                where, held = world.where()[-1], world.filled()
                event = world.step(answers[len([1 for row in told if row[0] == "asked"])]
                                   if len([1 for row in told if row[0] == "asked"]) < len(answers) else None)
                if event[0] in ("sour", "done", "asks"):
                    break
                told.append(self.seen(one, table_by_name, event, where, held))
            if event[0] == "sour":
                return False
            outcome = world.outcome()
            runs.append((event[0], outcome and [worth for worth, _ in outcome], [row for row in told if row[0] is not None]))
        (word, outcome, text), (other_word, other_outcome, rows) = runs
        self.assertEqual((word, outcome, len(text)), (other_word, other_outcome, len(rows)))
        self.assertEqual(asked[0], asked[1])
        for (kind, procedure, place, answer, held), (other, callee, spot, given, cups) in zip(text, rows):
            there, told = table_by_name[procedure][spot]
            self.assertEqual((kind, procedure, place, answer), (other, callee, there, given))
            for carrier, where in told:
                if carrier in held and where in cups and kind != "returned":
                    self.assertEqual(held[carrier][0], cups[where][0])
        return True

    def seen(self, one, table_by_name, event, where, held):
        """The kind of an event, its procedure and place, the answer, and what was filled, or None for what moves."""
        _, _, procedure, place = event[:4]
        shape = Shape(one, procedure)
        if event[0] == "did" and shape.steps[place][0] in MOVING + ("end",):
            return (None,) * 5
        return (event[0], procedure, place, event[4] if event[0] == "asked" else None, held)

    def test_drawn_code(self):
        chance = random.Random(35)
        good = 0
        for _ in range(60):
            program = draw_sound(chance, size=9, most=40)
            program = Program(tuple((name, 60) for name, _ in program.kinds), program.wells, program.dishes, program.procedures)
            code, tables = compiled(program, cups=16, cold=16)
            code, tables = reshaped(chance, code, tables)
            self.assertTrue(is_sound(code))
            for name, *_ in program.procedures:
                answers = tuple(chance.random() < 0.5 for _ in range(8))
                good += self.check_runs(program, code, tables, name, answers)
        self.assertGreater(good, 80)


if __name__ == "__main__":
    unittest.main()
