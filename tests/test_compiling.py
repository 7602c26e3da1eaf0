"""Fewest cups and compiling (points [36], [40], [41])."""

import random
import unittest

from drawing import draw_declared, draw_sound, is_sound
from samples import DAIRY, FULL
from second import Runner, Shape
from second_code import cups_of, fewest_cups_by_all, table_is_right

from sourwright.code import CodeProgram
from sourwright.compiling import compiled, fewest_cups
from sourwright.errors import NoRoom, UnknownName
from sourwright.flow import check_sound
from sourwright.lives import exact_type
from sourwright.locations import locations_hold
from sourwright.programs import Program
from sourwright.world import World

KINDS = (("m", 9), ("n", 9))
WELLS = (("w", "m", 1), ("v", "n", 1))
DISHES = (("d", "m", "n", 2), ("e", "n", "m", 1))
LETTERS = "abcdefgh"


def cups_for(*body, params=(), results=(), before=()):
    program = Program(KINDS, WELLS, DISHES, tuple(before) + (("p", params, results, body),))
    check_sound(program)
    return fewest_cups(program, "p")


def gets(names):
    return tuple(("get", one, "w") for one in names)


def reads(names):
    return tuple(("scale", one, one, 1) for one in names)


class FewestCupsTest(unittest.TestCase):
    def test_examples(self):
        self.assertEqual((fewest_cups(DAIRY, "make"), fewest_cups(DAIRY, "blend")), (1, 2))
        self.assertEqual(fewest_cups(name="blend", program=DAIRY), 2)

    def test_no_names(self):
        self.assertEqual(cups_for(), 0)
        self.assertEqual(cups_for(("wait", 1), ("while", (("if", (), ()),))), 0)

    def test_names_wanted_together(self):
        self.assertEqual(cups_for(*gets("ab")), 1)
        self.assertEqual(cups_for(*gets("ab"), *reads("a")), 2)
        self.assertEqual(cups_for(*gets("a"), *reads("a"), *gets("b"), *reads("b")), 1)
        self.assertEqual(cups_for(*gets("abc"), ("mix", "d", "+", "a", "b"), ("mix", "d", "+", "d", "c")), 3)
        self.assertEqual(cups_for(*gets(LETTERS), *reads(LETTERS)), 8)
        self.assertEqual(cups_for(*gets(LETTERS), *reads("a")), 2)

    def test_reads_and_other_uses(self):
        for use in (("copy", "c", "a"), ("put", "s", "a"), ("call", "one", ("a",), ())):
            before = (("one", (("x", "m"),), (), ()),)
            self.assertEqual(cups_for(*gets("ab"), use, *reads("b"), before=before), 2)

    def test_parameters_clash(self):
        params = tuple((one, "m") for one in "abc")
        self.assertEqual(cups_for(params=params), 3)
        self.assertEqual(cups_for(*gets("d"), *reads("d"), params=params), 3)
        self.assertEqual(cups_for(*gets("d"), *reads("abcd"), params=params), 4)
        # Nothing wants the first parameter later, so that the next names can have its cup.
        self.assertEqual(cups_for(*gets("d"), *reads("bcd"), params=params), 3)

    def test_parameters_have_their_cups(self):
        # A name of its own is wanted with b, another one with a; neither can have a third cup saved for it.
        body = reads("a") + gets("c") + reads("b") + (("copy", "d", "c"),) + reads("cd")
        self.assertEqual(cups_for(*body, params=(("a", "m"), ("b", "m"))), 2)
        self.assertEqual(cups_for(params=(("a", "m"), ("b", "m")), results=("b",)), 2)

    def test_results_of_a_call_clash(self):
        before = (("two", (), ("x", "y"), gets("xy")),)
        self.assertEqual(cups_for(("call", "two", (), ("a", "b")), before=before), 2)
        self.assertEqual(cups_for(("call", "two", (), ("a", "b")), *reads("a"), before=before), 2)
        self.assertEqual(cups_for(("call", "two", (), ("a", "b")), results=("b",), before=before), 2)

    def test_a_name_that_is_filled_and_not_wanted(self):
        self.assertEqual(cups_for(*gets("abc"), results=("a", "b")), 3)
        self.assertEqual(cups_for(*gets("abc"), results=("a", "c")), 2)
        self.assertEqual(cups_for(*gets("a"), ("copy", "b", "a"), *reads("a")), 2)
        self.assertEqual(cups_for(*gets("a"), ("copy", "b", "a"), *reads("b")), 1)
        self.assertEqual(cups_for(*gets("a"), ("put", "s", "a"), *gets("b"), ("take", "a", "s"), *reads("b")), 2)

    def test_through_loops(self):
        body = gets("a") + (("while", gets("b") + reads("b")),)
        self.assertEqual(cups_for(*body), 1)
        self.assertEqual(cups_for(*body, results=("a",)), 2)
        self.assertEqual(cups_for(*gets("a"), ("while", reads("a") + gets("b") + reads("b"))), 2)
        self.assertEqual(cups_for(*gets("a"), ("while", gets("b") + reads("b") + gets("a") + reads("a"))), 1)
        self.assertEqual(cups_for(*gets("ab"), ("while", gets("c") + (("while", reads("ac")),)), results=("b",)), 3)

    def test_on_one_way_alone(self):
        ifs = ("if", reads("a"), reads("b"))
        self.assertEqual(cups_for(*gets("ab"), ifs), 2)
        self.assertEqual(cups_for(*gets("a"), ("if", gets("b") + reads("b"), ()), *reads("a")), 2)
        self.assertEqual(cups_for(("if", gets("b") + reads("b"), gets("c") + reads("c"))), 1)
        # Both have the same way to be read on, though no way reads both.
        self.assertEqual(cups_for(*gets("a"), *gets("b"), ("wait", 1), ifs), 2)

    def test_names_that_clash_at_different_places(self):
        # No more than two names are wanted at once, but of three each clashes with each other one somewhere.
        body = gets("a")
        for one, other in zip("abcd", "bcde"):
            body += gets(other) + (("mix", "z", "+", one, other),) + (("mix", "z", "+", "z", other),)
        self.assertEqual(cups_for(*body), 3)

    def test_shelves_need_no_cups(self):
        body = gets("a") + (("put", "s", "a"),) + gets("b") + (("put", "t", "b"),) + gets("c") + (("take", "d", "s"),)
        self.assertEqual(cups_for(*body, *reads("d")), 1)

    def test_errors(self):
        for name in ("nope", "", None, "milk"):
            with self.assertRaises(UnknownName) as caught:
                fewest_cups(DAIRY, name)
            self.assertEqual(caught.exception.name, name)

    def test_drawn_programs(self):
        chance = random.Random(41)
        found = []
        for _ in range(150):
            program = draw_sound(chance, size=chance.choice((4, 8, 14)))
            for name, *_ in program.procedures:
                found.append(fewest_cups(program, name))
                self.assertEqual(found[-1], fewest_cups_by_all(program, name))
        self.assertEqual(set(found), {0, 1, 2, 3, 4})


def no_room(program, **room):
    try:
        compiled(program, **room)
    except NoRoom as error:
        return (error.procedure, error.number)
    return None


def marks(program, name, table, lives, worths, answers):
    """For each step that is no move and no end: its event with the place of the text, and all that is held ahead of it.

    The dict of what is held goes from carriers to pairs; of code, from cups and cold places.
    """
    world = World(program, name, lives, worths=worths)
    left = list(answers)
    found = []
    while True:
        where, held = world.where(), world.filled()
        event = world.step()
        if event[0] == "asks" and left:
            event = world.step(left.pop(0))
        if event[0] in ("sour", "done", "asks"):
            found.append((event[:4], None, world.outcome()))
            return found
        procedure, place = event[2:4]
        word = Shape(program, procedure).steps[place][0]
        if event[0] != "did" or word not in ("copy", "put", "take", "jump", "end"):
            there = table[procedure][place] if table else (place, ())
            told = {one: held[spot] for one, spot in there[1] if spot in held} if table else held
            if event[0] == "returned":
                told = {}
            found.append((event[:2] + (procedure, there[0]) + event[4:], where[-1][0], told))


class CompiledTest(unittest.TestCase):
    def check(self, program, cups, cold, code=None, tables=None):
        if code is None:
            code, tables = compiled(program, cups=cups, cold=cold)
        self.assertIs(type(code), CodeProgram)
        self.assertEqual((code.kinds, code.wells, code.dishes), (program.kinds, program.wells, program.dishes))
        self.assertEqual([given[0] for given in code.procedures], [given[0] for given in program.procedures])
        self.assertIs(check_sound(code), True)
        self.assertEqual(len(tables), len(program.procedures))
        for (name, params, rows), told in zip(code.procedures, tables):
            self.assertIs(locations_hold(program, code, name, told), True)
            self.assertTrue(table_is_right(program, code, name, told))
            self.assertEqual(exact_type(code, name), exact_type(program, name))
            for row in rows:
                self.assertTrue(all(cup < cups for cup in cups_of(row)), row)
                if row[0] in ("put", "take"):
                    self.assertLess(row[1] if row[0] == "put" else row[2], cold)
        return code, tables

    def check_runs(self, program, code, tables, name, lives, answers):
        worths = tuple(range(3, 3 + len(lives)))
        table = {given[0]: told for given, told in zip(program.procedures, tables)}
        text = marks(program, name, None, lives, worths, answers)
        rows = marks(code, name, table, lives, worths, answers)
        self.assertEqual(len(text), len(rows))
        for (event, procedure, held), (other, callee, there) in zip(text, rows):
            if event[0] in ("sour", "done", "asks"):
                self.assertEqual((event[:3] if event[0] != "asks" else event[:3], held), (other[:3], there))
                continue
            self.assertEqual((event, procedure), (other, callee))
            for carrier in there:
                if carrier in held:
                    self.assertEqual(held[carrier], there[carrier])

    def test_example(self):
        code, tables = compiled(DAIRY)
        self.check(DAIRY, 8, 3, code, tables)
        self.assertEqual(compiled(program=DAIRY, cold=3, cups=8), (code, tables))
        self.check(DAIRY, 2, 0)
        self.check(FULL, 16, 16)

    def test_defaults(self):
        body = gets(LETTERS) + reads(LETTERS) + (("put", "s", "a"), ("put", "t", "b"), ("put", "u", "c"))
        program = Program(KINDS, WELLS, DISHES, (("p", (), (), body),))
        self.check(program, 8, 3, *compiled(program))
        self.check(program, 8, 3, *compiled(program, cups=8))
        self.check(program, 8, 3, *compiled(program, cold=3))
        self.assertEqual(no_room(program, cups=7), ("p", 8))
        self.assertEqual(no_room(program, cold=2), ("p", 0))
        more = Program(KINDS, WELLS, DISHES, (("p", (), (), gets(LETTERS + "i") + reads(LETTERS + "i")),))
        self.assertEqual(no_room(more), ("p", 9))

    def test_no_procedures(self):
        self.assertEqual(compiled(Program(KINDS, (), (), ())), (CodeProgram(KINDS, (), (), ()), ()))

    def test_empty_and_nested_bodies(self):
        empty, wait = (), (("wait", 1),)
        bodies = [(("while", ()),), (("if", (), ()),), (("if", wait, ()),), (("if", (), wait),)]
        bodies += [(("while", body),) for body in bodies] + [(("if", body, body),) for body in bodies]
        bodies += [(("while", body + body),) for body in bodies] + [(("if", body, empty),) for body in bodies]
        bodies += [(("if", empty, body), ("while", body)) for body in bodies]
        for body in bodies:
            for params, results in (((), ()), ((("x", "m"),), ("x", "x"))):
                self.check(Program(KINDS, WELLS, DISHES, (("p", params, results, body),)), 1, 0)

    def test_no_room(self):
        two = ("two", (), (), gets("ab") + reads("ab"))
        three = ("three", (), (), gets("abc") + reads("abc"))
        shelf = ("shelf", (), (), gets("a") + (("put", "s", "a"),))
        both = ("both", (), (), gets("abc") + reads("abc") + (("put", "s", "a"), ("put", "t", "b")))
        for procedures, cups, cold, expected in (
            ((two,), 2, 0, None), ((two,), 1, 0, ("two", 2)), ((two, three), 2, 0, ("three", 3)), ((three, two), 1, 0, ("three", 3)),
            ((shelf,), 1, 0, ("shelf", 0)), ((shelf,), 1, 1, None), ((shelf, two), 1, 0, ("shelf", 0)), ((two, shelf), 1, 0, ("two", 2)),
            ((two, shelf), 2, 0, ("shelf", 0)), ((both,), 2, 1, ("both", 3)), ((both,), 3, 1, ("both", 0)), ((both,), 3, 2, None),
        ):
            program = Program(KINDS, WELLS, DISHES, procedures)
            self.assertEqual(no_room(program, cups=cups, cold=cold), expected)
            if expected is None:
                self.check(program, cups, cold)

    def test_drawn_programs_with_just_enough_room_and_with_more(self):
        chance = random.Random(42)
        for _ in range(120):
            program = draw_sound(chance, size=chance.choice((5, 10, 16)))
            needed = [fewest_cups(program, name) for name, *_ in program.procedures]
            shelves = [len(program[name].shelves) for name, *_ in program.procedures]
            cups, cold = max(needed + [1]), max(shelves)
            code, tables = self.check(program, cups, cold)
            self.check(program, 16, 16)
            self.check(program, cups + 1, cold + 1)
            for less_cups, less_cold in ((cups - 1, cold), (cups, cold - 1), (cups - 1, cold - 1), (1, 0)):
                if less_cups < 1 or less_cold < 0:
                    continue
                expected = [(given[0], many if many > less_cups else 0) for given, many, stored
                            in zip(program.procedures, needed, shelves) if many > less_cups or stored > less_cold]
                self.assertEqual(no_room(program, cups=less_cups, cold=less_cold), expected[0] if expected else None)
            for name, params, _, _ in program.procedures:
                lives = tuple(chance.randrange(-1, program.keep_of(kind) + 1) for _, kind in params)
                for _ in range(3):
                    answers = tuple(chance.random() < 0.5 for _ in range(7))
                    self.check_runs(program, code, tables, name, lives, answers)

    def test_text_by_a_second_way(self):
        # What code tells at its end, against bodies carried out within bodies.
        chance = random.Random(43)
        done = 0
        for _ in range(60):
            program = draw_sound(chance, size=9, most=30)
            code, _ = compiled(program, cups=16, cold=16)
            for name, params, _, _ in program.procedures:
                lives = tuple(program.keep_of(kind) for _, kind in params)
                worths = tuple(chance.randrange(-9, 10) for _ in lives)
                answers = tuple(chance.random() < 0.4 for _ in range(9))
                told = Runner(program, name, lives, answers, worths, lambda procedure, place, times: place + 7 * times)
                world = World(code, name, lives, worths=worths, supply=lambda procedure, place, times: place + 7 * times)
                last = list(world.events(answers))[-1]
                self.assertEqual((last[:2], world.outcome()), (told.told[-1][0][:2], told.outcome))
                done += last[0] == "done"
        self.assertGreater(done, 60)

    def test_sixty_steps(self):
        chance = random.Random(44)
        for _ in range(5):
            inner = tuple(
                chance.choice((("mix", a, "+", b, c), ("copy", a, b), ("get", a, "w"), ("scale", a, b, 2)))
                for a, b, c in [[chance.choice(LETTERS) for _ in range(3)] for _ in range(24)]
            )
            body = gets(LETTERS) + (("while", (("if", inner[:9], inner[9:16]), ("while", inner[16:22]))),) + inner[:24]
            program = Program(KINDS, WELLS, DISHES, (("p", (), ("a", "h"), body),))
            self.assertGreater(len(program["p"]), 54)
            self.check(program, 8, 0)

    def test_kinds_that_share_a_cup(self):
        # One cup holds both kinds in turn, and on different ways.
        body = (("if", (("dish", "y", "d", "x"), ("dish", "x", "e", "y")), ()), ("dish", "y", "d", "x"))
        program = Program(KINDS, WELLS, DISHES, (("p", (("x", "m"),), ("y",), body),))
        self.check(program, 1, 0)
        body = (("while", (("if", gets("a") + reads("a"), (("get", "b", "v"),) + reads("b")),)),)
        self.check(Program(KINDS, WELLS, DISHES, (("p", (), (), body),)), 1, 0)

    def test_declared_things_stay(self):
        chance = random.Random(45)
        kinds, wells, dishes = draw_declared(chance)
        code, tables = compiled(Program(kinds, wells, dishes, ()))
        self.assertEqual((code.kinds, code.wells, code.dishes, code.procedures, tables), (kinds, wells, dishes, (), ()))
        self.assertTrue(is_sound(code))


if __name__ == "__main__":
    unittest.main()
