"""Fewest ticks of straight procedures (point [42])."""

import random
import time
import unittest

from drawing import draw_declared
from samples import DAIRY
from second import Shape, step_ticks
from second_code import cups_of, fewest_ticks_by_all, table_is_right

from sourwright.blocks import fewest_ticks
from sourwright.code import CodeProgram
from sourwright.compiling import fewest_cups
from sourwright.errors import InvalidProgram, InvalidStart, TooLong, UnknownName
from sourwright.flow import check_sound
from sourwright.judging import is_fresh
from sourwright.lives import exact_type
from sourwright.locations import locations_hold
from sourwright.programs import Program

KINDS = (("m", 5), ("n", 12), ("z", 0))
WELLS = (("w", "m", 1), ("s", "m", 9), ("v", "n", 2), ("t", "z", 3))
DISHES = (("d", "m", "n", 2), ("e", "n", "m", 1), ("f", "m", "m", 9))


def text_of(*body, params=(), results=()):
    return Program(KINDS, WELLS, DISHES, (("p", params, results, body),))


def text_ticks(program, name="p"):
    return sum(step_ticks(program, step) for step in Shape(program, name).steps)


def draw_straight(chance, steps, most_ticks=9):
    """A straight procedure of so many steps, of few names, so that they are filled again and read more than once."""
    kinds, wells, dishes = draw_declared(chance, 12)
    wells += tuple(("v" + name, name, 9) for name, _ in kinds)
    names = "abcde"[:chance.choice((2, 3, 4, 5))]
    while True:
        params = tuple((one, chance.choice(kinds)[0]) for one in names[:chance.choice((0, 1, 1, 2, 2, 3))])
        known = dict(params)
        body = []
        while len(body) < steps:
            word = chance.choice(("get", "mix", "mix", "scale", "dish", "wait"))
            z, x, y = [chance.choice(names) for _ in range(3)]
            if word == "get":
                body.append(("get", z, chance.choice(wells)[0]))
            elif word == "wait":
                body.append(("wait", chance.randrange(1, most_ticks + 1)))
            elif word == "mix":
                body.append(("mix", z, chance.choice("+-"), x, y))
            elif word == "scale":
                body.append(("scale", z, x, chance.randrange(-9, 10)))
            elif dishes:
                body.append(("dish", z, chance.choice(dishes)[0], x))
        results = tuple(chance.choice(names) for _ in range(chance.randrange(3)))
        try:
            program = Program(kinds, wells, dishes, (("p", params, results, tuple(body)),))
        except InvalidProgram:
            continue
        lives = tuple(chance.choice((-1, dict(kinds)[known[one]], chance.randrange(dict(kinds)[known[one]] + 1))) for one, _ in params)
        return program, lives


class Checks(unittest.TestCase):
    def check(self, program, lives, cups, cold, name="p"):
        """Holds what is told against all that is asked of it but that it is the least; returns the ticks."""
        told = fewest_ticks(program, name, lives, cups=cups, cold=cold)
        if told is None:
            return None
        ticks, rows, table = told
        self.assertTrue(all(row[0] not in ("ask", "jump", "call") for row in rows))
        for row in rows:
            self.assertTrue(all(cup < cups for cup in cups_of(row)), row)
            if row[0] in ("put", "take"):
                self.assertLess(row[1] if row[0] == "put" else row[2], cold)
        kinds = tuple(kind for _, kind in program[name].params)
        code = CodeProgram(program.kinds, program.wells, program.dishes, ((name, kinds, rows),))
        self.assertIs(check_sound(code), True)
        self.assertIs(locations_hold(program, code, name, table), True)
        self.assertTrue(table_is_right(program, code, name, table))
        self.assertTrue(is_fresh(code, name, lives))
        self.assertEqual(sum(step_ticks(code, step) for step in Shape(code, name).steps), ticks)
        self.assertEqual(exact_type(code, name).took, min(ticks, 61))
        self.assertGreaterEqual(ticks, text_ticks(program, name))
        return ticks


class CasesTest(Checks):
    def more(self, program, lives, cups, cold):
        """The ticks beyond those of the text."""
        ticks = self.check(program, lives, cups, cold)
        return None if ticks is None else ticks - text_ticks(program)

    def test_nothing_to_do(self):
        for cups in (1, 2, 3):
            for cold in (0, 1, 2):
                self.assertEqual(fewest_ticks(text_of(), "p", (), cups=cups, cold=cold), (0, (("end", ()),), ((0, ()),)))
        program = text_of(params=(("x", "m"),), results=("x", "x"))
        self.assertEqual(fewest_ticks(program, "p", (-1,), cups=1, cold=0), (0, (("end", (0, 0)),), ((0, (("x", "c0"),)),)))

    def test_by_name(self):
        program = text_of(("wait", 2), params=(("x", "m"),))
        self.assertEqual(
            fewest_ticks(cold=0, cups=1, lives=[3], name="p", program=program),
            (2, (("wait", 2), ("end", ())), ((0, ()), (1, ()))),
        )

    def test_a_value_rests(self):
        body = (("get", "a", "w"), ("wait", 6), ("scale", "a", "a", 1))
        program = text_of(*body, results=("a",))
        self.assertEqual([self.more(program, (), 1, cold) for cold in (0, 1, 2)], [None, 2, 2])
        program = text_of(body[0], ("wait", 5), body[2], results=("a",))
        self.assertEqual([self.more(program, (), 1, cold) for cold in (0, 1, 2)], [0, 0, 0])

    def test_two_values_rest(self):
        body = (("get", "a", "w"), ("get", "b", "w"), ("wait", 60), ("mix", "a", "+", "a", "b"))
        program = text_of(*body)
        self.assertEqual([self.more(program, (), cups, cold) for cups in (1, 2, 3) for cold in (0, 1, 2)],
                         [None, None, None, None, None, 4, None, None, 4])

    def test_a_copy_rests(self):
        body = (("scale", "b", "a", 1), ("wait", 60), ("mix", "c", "+", "a", "b"))
        program = text_of(*body, params=(("a", "m"),))
        self.assertEqual([self.more(program, (5,), 3, cold) for cold in (0, 1, 2)], [None, None, 4])
        body = (("get", "a", "w"), ("dish", "b", "f", "a"), ("scale", "a", "a", 1))
        program = text_of(*body)
        # The dish reads one copy while the other one rests.
        self.assertEqual([self.more(program, (), cups, 1) for cups in (1, 2, 3)], [None, 3, 3])

    def test_a_copy_keeps_a_result(self):
        # The result is sour by then, but lies on a cold place while all cups are in use.
        body = (("mix", "g", "+", "a", "b"), ("dish", "c", "d", "g"), ("mix", "d", "+", "c", "c"))
        program = text_of(*body, params=(("a", "m"), ("b", "m")), results=("g", "c"))
        self.assertEqual([self.more(program, (5, 5), cups, 1) for cups in (2, 3)], [2, 0])
        slow = (("mix", "g", "+", "a", "b"), ("dish", "c", "f", "g"), ("mix", "d", "+", "c", "c"))
        program = text_of(*slow, params=(("a", "m"), ("b", "m")), results=("g", "c"))
        self.assertEqual([self.more(program, (5, 5), cups, 1) for cups in (2, 3)], [3, 0])

    def test_cold_places_as_room(self):
        body = (("get", "a", "w"), ("get", "b", "w"), ("scale", "b", "b", 2), ("scale", "a", "a", 2))
        self.assertEqual([self.more(text_of(*body), (), 1, cold) for cold in (0, 1, 2)], [None, 2, 2])
        self.assertEqual([self.more(text_of(*body), (), 2, cold) for cold in (0, 1, 2)], [0, 0, 0])

    def test_values_that_are_sour(self):
        program = text_of(("scale", "b", "a", 1), params=(("a", "m"),))
        self.assertIsNone(self.more(program, (-1,), 3, 2))
        self.assertEqual(self.more(program, (0,), 2, 0), 0)
        # What is sour cannot be put, but copied, and handed on as a result.
        program = text_of(("wait", 60), ("wait", 60), params=(("a", "m"), ("b", "m")), results=("b", "a"))
        self.assertEqual(self.more(program, (-1, -1), 2, 0), 0)
        program = text_of(("get", "c", "w"), ("scale", "c", "c", 1), params=(("a", "m"),), results=("a",))
        self.assertEqual([self.more(program, (-1,), 1, 2), self.more(program, (-1,), 2, 0)], [None, 0])
        self.assertEqual([self.more(program, (0,), 1, cold) for cold in (0, 1, 2)], [None, 2, 2])

    def test_parameters_that_are_never_read(self):
        program = text_of(("get", "b", "w"), ("scale", "b", "b", 1), params=(("a", "m"),), results=("b",))
        self.assertEqual([self.more(program, (life,), 1, 0) for life in (-1, 0, 5)], [0, 0, 0])

    def test_keeps_of_zero(self):
        self.assertEqual(self.more(text_of(("get", "a", "t"), ("scale", "a", "a", 1)), (), 1, 0), 0)
        program = text_of(("get", "a", "t"), ("wait", 1), ("scale", "a", "a", 1))
        self.assertEqual([self.more(program, (), 1, cold) for cold in (0, 1)], [None, 2])

    def test_a_name_that_is_filled_again(self):
        body = (("get", "a", "w"), ("get", "a", "v"), ("scale", "a", "a", 1))
        with self.assertRaises(InvalidProgram):
            text_of(*body)
        body = (("get", "a", "w"), ("scale", "b", "a", 1), ("get", "a", "w"), ("mix", "a", "-", "a", "b"))
        self.assertEqual([self.more(text_of(*body, results=("a",)), (), cups, 0) for cups in (1, 2)], [None, 0])

    def test_what_lies_on_a_cold_place_and_is_of_no_use(self):
        # The copy that rested is filled again before it is taken; the cold place is needed for another value.
        body = (("get", "a", "w"), ("get", "b", "w"), ("scale", "b", "b", 1), ("scale", "a", "b", 1), ("wait", 8), ("scale", "a", "a", 1))
        self.check(text_of(*body), (), 1, 1)
        self.assertEqual(self.more(text_of(*body), (), 2, 1), 2)

    def test_errors(self):
        long = text_of(*[("wait", 1)] * 7, params=(("x", "m"),))
        asking = text_of(("while", (("wait", 1),)), params=(("x", "m"),))
        for name, lives, kind, values in (
            ("nope", (9, 9), UnknownName, ("nope",)), ("p", (), InvalidStart, ("count", 1)), ("p", (1, 1), InvalidStart, ("count", 1)),
            ("p", (6,), InvalidStart, ("life", 0)), ("p", (-2,), InvalidStart, ("life", 0)), ("p", (True,), InvalidStart, ("life", 0)),
            ("p", (5,), TooLong, (7,)),
        ):
            with self.assertRaises(kind) as caught:
                fewest_ticks(long, name, lives, cups=1, cold=0)
            told = caught.exception
            self.assertEqual((told.name,) if kind is UnknownName else (told.steps,) if kind is TooLong else (told.word, told.index), values)
        with self.assertRaises(TooLong) as caught:
            fewest_ticks(asking, "p", [5], cups=1, cold=0)
        self.assertEqual(caught.exception.steps, 2)

    def test_steps_that_are_not_straight(self):
        get = ("get", "a", "w")
        before = ("q", (), (), ())
        for body in (
            (("if", (), ()),), (("while", ()),), (("call", "q", (), ()),), (get, ("copy", "b", "a")), (get, ("put", "s", "a")),
            (get, ("put", "s", "a"), ("take", "a", "s")), (("if", (get,) * 6, ()),), (get,) * 7,
        ):
            program = Program(KINDS, WELLS, DISHES, (before, ("p", (), (), body)))
            with self.assertRaises(TooLong) as caught:
                fewest_ticks(program, "p", (), cups=3, cold=2)
            self.assertEqual(caught.exception.steps, len(program["p"]))
        with self.assertRaises(TooLong) as caught:
            fewest_ticks(DAIRY, "make", (8,), cups=1, cold=0)
        self.assertEqual(caught.exception.steps, 4)
        self.assertEqual(self.more(text_of(*(get,) * 6), (), 1, 0), 0)


class DrawnTest(Checks):
    def test_against_all_contents(self):
        chance = random.Random(51)
        found = {}
        for _ in range(1500):
            program, lives = draw_straight(chance, chance.choice((3, 4, 4, 5)), 6)
            least = chance.choice((2, 3, 4, 6))
            kinds = tuple((name, min(keep, least)) for name, keep in program.kinds)
            program = Program(kinds, program.wells, program.dishes, program.procedures)
            lives = tuple(min(life, least) for life in lives)
            cups, cold = max(1, len(lives), chance.choice((1, 2, 2))), chance.choice((0, 1, 1, 2))
            cold = min(cold, 4 - cups)
            told = self.check(program, lives, cups, cold)
            more = told if told is None else told - text_ticks(program)
            found[more] = found.get(more, 0) + 1
            # Most need nothing or cannot be done at all.
            if more in (0, None) and found[more] > 40 or more == 2 and found[more] > 20:
                continue
            self.assertEqual(told, fewest_ticks_by_all(program, "p", lives, cups, cold))
        self.assertLessEqual({None, 0, 2, 3, 4, 5, 6}, set(found))

    def test_more_room_and_more_life(self):
        chance = random.Random(52)
        for _ in range(150):
            program, lives = draw_straight(chance, chance.choice((4, 5, 6)))
            cups, cold = max(1, len(lives), chance.choice((1, 2, 3))), chance.choice((0, 1, 2))
            ticks = self.check(program, lives, cups, cold)
            if ticks is None:
                continue
            if cups < 3:
                self.assertLessEqual(self.check(program, lives, cups + 1, cold), ticks)
            if cold < 2:
                self.assertLessEqual(self.check(program, lives, cups, cold + 1), ticks)
            more = tuple(min(life + 1, program.keep_of(kind)) for life, (_, kind) in zip(lives, program["p"].params))
            self.assertLessEqual(self.check(program, more, cups, cold), ticks)

    def test_texts_that_are_fresh(self):
        chance = random.Random(53)
        fresh = 0
        for _ in range(400):
            program, lives = draw_straight(chance, chance.choice((3, 4, 5, 6)))
            cups = max(fewest_cups(program, "p"), 1)
            if cups <= 3 and is_fresh(program, "p", lives):
                self.assertEqual(self.check(program, lives, cups, chance.choice((0, 1, 2))), text_ticks(program))
                fresh += 1
        self.assertGreater(fresh, 60)

    def test_at_the_limits(self):
        # Six steps with three cups, two cold places and keeps of 12, of which some take the search long.
        kinds = (("l", 12),)
        wells, dishes = (("u", "l", 4),), (("e", "l", "l", 1), ("f", "l", "l", 3))
        cases = (
            ((("a", "l"), ("b", "l")), ("a", "d"), (
                ("dish", "e", "e", "b"), ("get", "d", "u"), ("mix", "d", "+", "a", "e"), ("mix", "g", "+", "d", "b"),
                ("mix", "b", "+", "e", "b"), ("mix", "c", "+", "a", "g")), None),
            ((("a", "l"), ("b", "l"), ("c", "l")), ("e", "a"), (
                ("wait", 5), ("mix", "e", "+", "a", "a"), ("dish", "f", "f", "a"), ("mix", "c", "+", "e", "b"),
                ("mix", "f", "+", "b", "f"), ("mix", "d", "+", "c", "e")), None),
            ((("a", "l"), ("b", "l"), ("c", "l")), ("a",), (
                ("get", "c", "u"), ("get", "e", "u"), ("mix", "g", "+", "a", "a"), ("wait", 12), ("dish", "d", "f", "g"),
                ("mix", "b", "+", "a", "b")), None),
        )
        begun = time.perf_counter()
        for params, results, body, expected in cases:
            program = Program(kinds, wells, dishes, (("p", params, results, body),))
            told = self.check(program, (12,) * len(params), 3, 2)
            if expected is not None:
                self.assertEqual(told, expected)
        chance = random.Random(54)
        for _ in range(120):
            program, lives = draw_straight(chance, 6, 12)
            program = Program(tuple((name, 12) for name, _ in program.kinds), program.wells, program.dishes, program.procedures)
            self.check(program, lives, 3, 2)
        self.assertLess(time.perf_counter() - begun, 60)


if __name__ == "__main__":
    unittest.main()
