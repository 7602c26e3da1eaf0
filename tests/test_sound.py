"""Soundness of text and code (points [12] and [37]), and that runs of sound programs find all they need."""

import random
import unittest

from drawing import code_of, draw_any, draw_code, draw_sound, shaken
from samples import DAIRY, DISHES, FULL, KINDS, WELLS
from second import Shape, first_fault, way_of

from sourwright.code import CodeProgram
from sourwright.errors import InvalidProgram, SourError, Unfilled
from sourwright.flow import check_sound
from sourwright.programs import Program
from sourwright.world import World

GET = ("get", "x", "cow")
TWO_WELLS = WELLS + (("vat", "curd", 1),)


def fault_of(program):
    """What Unfilled tells of a program, or None if it is sound."""
    try:
        assert check_sound(program) is True
    except Unfilled as error:
        return (error.procedure, error.place, error.carrier, error.answers)
    return None


def fault_of_body(*body, params=(), results=()):
    """The fault of a procedure with this body."""
    program = Program(KINDS, TWO_WELLS, DISHES, (("one", (("x", "milk"),), ("x",), ()), ("p", params, results, body)))
    return fault_of(program)


def fault_of_rows(*rows, params=()):
    """The fault of a code procedure with these rows."""
    one = ("one", ("milk",), (("end", (0, 0)),))
    return fault_of(CodeProgram(KINDS, TWO_WELLS, DISHES, (one, ("p", params, rows))))


class TextTest(unittest.TestCase):
    def test_sound(self):
        self.assertIs(check_sound(DAIRY), True)
        self.assertIs(check_sound(program=FULL), True)
        self.assertIs(check_sound(Program(KINDS, (), (), ())), True)

    def test_each_step_that_needs_its_operands(self):
        fill = ("if", (GET,), ())
        for step, carrier in (
            (("mix", "z", "+", "x", "x"), "x"), (("scale", "z", "x", 1), "x"), (("dish", "z", "press", "x"), "x"),
            (("copy", "z", "x"), "x"), (("put", "s", "x"), "x"), (("call", "one", ("x",), ("z",)), "x"),
        ):
            self.assertEqual(fault_of_body(fill, step), ("p", 2, carrier, (False,)))
            self.assertIsNone(fault_of_body(GET, step))
        rest = (GET, ("if", (("put", "s", "x"),), ()))
        self.assertEqual(fault_of_body(*rest, ("take", "z", "s")), ("p", 3, "s", (False,)))
        self.assertEqual(fault_of_body(*rest, ("put", "s", "x")), ("p", 3, "s", (True,)))
        self.assertEqual(fault_of_body(*rest, ("scale", "x", "x", 1)), ("p", 3, "x", (True,)))

    def test_exit(self):
        self.assertEqual(fault_of_body(("while", (GET,)), results=("x",)), ("p", 2, "x", (False,)))
        self.assertIsNone(fault_of_body(("while", (GET,)), params=(("x", "milk"),), results=("x", "x")))
        body = (("if", (GET,), (("get", "y", "cow"),)),)
        self.assertEqual(fault_of_body(*body, results=("x", "y")), ("p", 3, "x", (False,)))
        self.assertEqual(fault_of_body(*body, results=("y", "x")), ("p", 3, "y", (True,)))

    def test_first_carrier_in_the_step(self):
        fill = ("if", (GET, ("get", "y", "cow")), ())
        self.assertEqual(fault_of_body(fill, ("mix", "z", "+", "y", "x")), ("p", 3, "y", (False,)))
        self.assertEqual(fault_of_body(fill, GET, ("mix", "z", "+", "x", "y")), ("p", 4, "y", (False,)))
        # For a put, the shelf comes first.
        body = (GET, ("put", "s", "x"), ("if", (GET,), ()), ("put", "s", "x"))
        self.assertEqual(fault_of_body(*body)[:3], ("p", 4, "s"))

    def test_first_procedure_and_least_place(self):
        bad = (("if", (GET,), ()), ("copy", "x", "x"))
        program = Program(KINDS, WELLS, (), (("a", (), (), ()), ("b", (), (), bad), ("c", (), (), bad)))
        self.assertEqual(fault_of(program), ("b", 2, "x", (False,)))
        # A while that empties a name makes its own first step fail, which has the least place.
        body = (GET, ("while", (("copy", "y", "x"), ("put", "s", "x"), GET, ("take", "y", "s"), ("put", "s", "x"),
                                ("take", "y", "s"))))
        self.assertEqual(fault_of_body(*body), ("p", 2, "x", (True, True)))

    def test_shelves_belong_to_a_call(self):
        rest = ("rest", (("x", "milk"),), (), (("put", "s", "x"),))
        body = (GET, ("put", "s", "x"), GET, ("call", "rest", ("x",), ()), ("take", "x", "s"), ("scale", "x", "x", 2))
        self.assertIsNone(fault_of(Program(KINDS, WELLS, (), (rest, ("p", (), (), body)))))

    def test_a_filled_name_stays_so_whatever_it_is_filled_from(self):
        # The copy at place 2 fails first; it fills y all the same.
        self.assertEqual(fault_of_body(("if", (GET,), ()), ("copy", "y", "x"), ("copy", "y", "y")), ("p", 2, "x", (False,)))

    def test_against_all_states(self):
        chance = random.Random(11)
        seen = {True: 0, False: 0}
        for _ in range(700):
            drawn = draw_any(chance)
            procedures = [shaken(chance, one) if chance.random() < 0.4 else one for one in drawn.procedures]
            try:
                program = Program(drawn.kinds, drawn.wells, drawn.dishes, procedures)
            except InvalidProgram:
                continue
            seen[check_fault(self, program)] += 1
        self.assertGreater(min(seen.values()), 60)

    def test_loops_that_lose_what_they_began_with(self):
        put, take = ("put", "s", "x"), ("take", "x", "s")
        # The name is filled again each time before it is used.
        lost = ("while", (GET, put, ("take", "z", "s")))
        self.assertIsNone(fault_of_body(GET, lost))
        self.assertIsNone(fault_of_body(GET, lost, GET, ("scale", "x", "x", 1)))
        self.assertEqual(fault_of_body(GET, lost, ("scale", "x", "x", 1)), ("p", 5, "x", (True, False)))
        self.assertEqual(fault_of_body(GET, lost, results=("x",)), ("p", 5, "x", (True, False)))
        self.assertEqual(fault_of_body(GET, ("while", (put, ("take", "z", "s")))), ("p", 2, "x", (True, True)))
        # Shelves, too.
        self.assertIsNone(fault_of_body(GET, put, ("while", (take, put)), take))
        self.assertIsNone(fault_of_body(GET, ("while", (put, take)), put))
        self.assertEqual(fault_of_body(GET, ("while", (GET, put))), ("p", 3, "s", (True, True)))
        self.assertEqual(fault_of_body(GET, put, ("while", (take,))), ("p", 3, "s", (True, True)))
        self.assertEqual(fault_of_body(GET, put, ("while", (take,)), GET, put), ("p", 3, "s", (True, True)))
        self.assertEqual(fault_of_body(GET, ("while", (("if", (put,), ()), GET))), ("p", 3, "s", (True, True, True, True)))

    def test_branches_that_lose_different_things(self):
        put, take, again = ("put", "s", "x"), ("take", "x", "s"), ("get", "z", "cow")
        self.assertIsNone(fault_of_body(GET, ("if", (put,), (put,)), take))
        self.assertIsNone(fault_of_body(GET, put, ("if", (take, put), ()), take))
        self.assertEqual(fault_of_body(GET, ("if", (put, take), (again,)), ("copy", "z", "z")), ("p", 5, "z", (True,)))
        self.assertEqual(fault_of_body(GET, put, ("if", (take,), ()), GET, put), ("p", 5, "s", (False,)))
        self.assertEqual(fault_of_body(GET, put, ("if", (take,), ()), take), ("p", 4, "s", (True,)))

    def test_against_all_states_where_much_rests(self):
        # Bodies of puts, takes and loops alone, most of which are not sound.
        chance = random.Random(18)
        seen = {True: 0, False: 0}
        for _ in range(1500):
            body = tuple(self.drawn(chance, 2) for _ in range(chance.randrange(1, 6)))
            program = Program(
                KINDS, TWO_WELLS, DISHES,
                (("p", (("x", "milk"),), chance.choice(((), ("x",))), (GET, ("put", "s", "x"), ("take", "y", "s")) + body),),
            )
            seen[check_fault(self, program)] += 1
        self.assertGreater(min(seen.values()), 100)

    def drawn(self, chance, depth):
        word = chance.choice(("get", "put", "take", "get", "put", "take", "copy", "if", "while", "while"))
        if depth and word in ("if", "while"):
            bodies = [
                tuple(self.drawn(chance, depth - 1) for _ in range(chance.randrange(4)))
                for _ in range(2 if word == "if" else 1)
            ]
            return (word, *bodies)
        one, other = chance.choice("xy"), chance.choice("xy")
        return {"put": ("put", "s", one), "take": ("take", one, "s"), "copy": ("copy", one, other)}.get(word, ("get", one, "cow"))

    def test_fewest_answers_among_very_many_ways(self):
        fork = ("if", (("wait", 1),), (("wait", 2),))
        body = (GET,) + (fork,) * 18 + (("if", (("put", "s", "x"),), ()), ("scale", "x", "x", 1))
        procedure, place, carrier, answers = fault_of_body(*body)
        self.assertEqual((procedure, place, carrier, len(answers), answers[-1]), ("p", 57, "x", 19, True))


def check_fault(test, program):
    """Holds the fault of a program against going through all states; returns whether there is none."""
    told = fault_of(program)
    expected = first_fault(program)
    if told is None or expected is None:
        test.assertEqual((told, expected), (None, None))
        return True
    name, place, carrier, answers = told
    test.assertEqual((name, place, carrier, len(answers)), expected)
    test.assertTrue(all(answer is True or answer is False for answer in answers) and type(answers) is tuple)
    test.assertIn(place, way_of(Shape(program, name), answers))
    return False


class CodeTest(unittest.TestCase):
    def test_sound(self):
        self.assertIs(check_sound(code_of(DAIRY)), True)
        self.assertIs(check_sound(code_of(FULL)), True)

    def test_not_filled(self):
        fill = (("ask", 2), ("get", 0, "cow", 0))
        end = ("end", ())
        for row in (
            ("mix", 1, "+", 0, 0), ("scale", 1, 0, 1), ("dish", 1, "press", 0), ("copy", 1, 0), ("put", 0, 0),
            ("call", "one", (0,), (1, 2)),
        ):
            self.assertEqual(fault_of_rows(*fill, row, end), ("p", 2, "c0", (False,)))
            self.assertIsNone(fault_of_rows(fill[1], row, end))
        self.assertEqual(fault_of_rows(*fill, ("end", (0,))), ("p", 2, "c0", (False,)))
        self.assertEqual(fault_of_rows(("take", 0, 3), end), ("p", 0, "p3", ()))
        rest = (("get", 0, "cow", 0), ("ask", 3), ("put", 15, 0))
        self.assertEqual(fault_of_rows(*rest, ("take", 1, 15), end), ("p", 3, "p15", (False,)))
        self.assertEqual(fault_of_rows(*rest, ("put", 15, 0), end), ("p", 3, "p15", (True,)))

    def test_wrong_kinds(self):
        both = (("get", 0, "cow", 0), ("get", 1, "vat", 0))
        end = ("end", ())
        self.assertEqual(fault_of_rows(*both, ("mix", 2, "+", 0, 1), end), ("p", 2, "c1", ()))
        self.assertEqual(fault_of_rows(*both, ("dish", 2, "press", 1), end), ("p", 2, "c1", ()))
        self.assertEqual(fault_of_rows(*both, ("call", "one", (1,), (2, 3)), end), ("p", 2, "c1", ()))
        self.assertIsNone(fault_of_rows(*both, ("copy", 1, 0), ("mix", 2, "+", 0, 1), end))
        # A mix has the kind of its first operand, a copy, put and take that of the operand, a dish its own one.
        for row, carrier in (
            (("copy", 2, 1), "c2"), (("scale", 2, 1, 1), "c2"), (("mix", 2, "-", 1, 1), "c2"),
            (("dish", 2, "press", 0), "c2"), (("call", "one", (0,), (2, 3)), None),
        ):
            fault = fault_of_rows(*both, row, ("dish", 3, "press", 2), end)
            self.assertEqual(fault, carrier and ("p", 3, carrier, ()))
        rows = both + (("put", 0, 1), ("take", 2, 0), ("mix", 3, "+", 0, 2), end)
        self.assertEqual(fault_of_rows(*rows), ("p", 4, "c2", ()))

    def test_unlike_ends(self):
        both = (("get", 0, "cow", 0), ("get", 1, "vat", 0), ("ask", 4))
        self.assertEqual(fault_of_rows(*both, ("end", (0, 1)), ("end", (0, 0))), ("p", 4, "c0", (False,)))
        self.assertEqual(fault_of_rows(*both, ("end", (0, 1)), ("end", (1, 0))), ("p", 4, "c1", (False,)))
        self.assertIsNone(fault_of_rows(*both, ("end", (0, 1)), ("end", (0, 1))))

    def test_unlike_kinds_on_different_ways(self):
        fork = (("ask", 3), ("get", 0, "cow", 0), ("jump", 4), ("get", 0, "vat", 0))
        self.assertIsNone(fault_of_rows(*fork, ("end", ())))
        for row, answers in (
            (("scale", 1, 0, 1), 1), (("copy", 1, 0), 1), (("put", 0, 0), 1), (("mix", 1, "+", 0, 0), 1),
        ):
            name, place, carrier, told = fault_of_rows(*fork, row, ("end", ()))
            self.assertEqual((name, place, carrier, len(told)), ("p", 4, "c0", answers))
        # Where one kind is needed, the way brings the other one.
        self.assertEqual(fault_of_rows(*fork, ("dish", 1, "press", 0), ("end", ())), ("p", 4, "c0", (False,)))
        self.assertEqual(fault_of_rows(*fork, ("call", "one", (0,), (1, 2)), ("end", ())), ("p", 4, "c0", (False,)))
        # At the first end no kind is needed: any way with the fewest answers is right.
        name, place, carrier, answers = fault_of_rows(*fork, ("end", (0,)))
        self.assertEqual((name, place, carrier, len(answers)), ("p", 4, "c0", 1))
        # A put finds unlike kinds filled.
        rows = (("ask", 4), ("get", 0, "cow", 0), ("put", 0, 0), ("jump", 6), ("get", 0, "vat", 0), ("put", 0, 0),
                ("get", 1, "cow", 0), ("put", 0, 1), ("end", ()))
        name, place, carrier, answers = fault_of_rows(*rows)
        self.assertEqual((name, place, carrier, len(answers)), ("p", 7, "p0", 1))
        self.assertEqual(fault_of_rows(*fork, ("get", 1, "cow", 0), ("mix", 2, "+", 1, 0), ("end", ())),
                         ("p", 5, "c0", (False,)))

    def test_what_is_not_filled_is_handed_on(self):
        # Row 4 comes before row 1: there p0 is not filled, as c5 was not; only the take at row 1 fails.
        rows = (("jump", 4), ("put", 0, 0), ("end", ()), ("end", ()), ("put", 0, 5), ("get", 0, "cow", 0), ("ask", 1),
                ("jump", 3))
        self.assertEqual(fault_of_rows(*rows), ("p", 4, "c5", ()))
        # Here the put at row 4 would fail, too, but what the put at row 6 leaves is no reason for row 1 to fail.
        rows = (("jump", 3), ("put", 0, 0), ("end", ()), ("get", 0, "cow", 0), ("put", 0, 5), ("jump", 1))
        self.assertEqual(fault_of_rows(*rows), ("p", 4, "c5", ()))
        # The cold place is filled from a filled cup: then row 1 is the least place that fails.
        rows = (("jump", 3), ("put", 0, 0), ("end", ()), ("get", 5, "cow", 0), ("put", 0, 5), ("jump", 1))
        self.assertEqual(fault_of_rows(*rows), ("p", 1, "p0", ()))

    def test_against_all_states(self):
        chance = random.Random(12)
        seen = {True: 0, False: 0}
        for _ in range(1200):
            seen[check_fault(self, draw_code(chance))] += 1
        self.assertGreater(min(seen.values()), 100)


class RunsOfSoundProgramsTest(unittest.TestCase):
    def test_runs_find_all_they_need(self):
        chance = random.Random(13)
        ends = set()
        for number in range(300):
            program = draw_sound(chance)
            code = code_of(program, chance) if number % 2 else program
            for given in code.procedures:
                shape = Shape(code, given[0])
                lives = tuple(program.keep_of(kind) for kind in shape.kinds)
                world = World(code, given[0], lives)
                for _ in range(60):
                    self.check_place(code, world)
                    is_at_exit = world.where() == ((given[0], shape.exit),)
                    event = world.step(chance.random() < 0.5)
                    self.assertEqual(event[0] == "done", is_at_exit)
                    if event[0] in ("done", "sour"):
                        ends.add(event[0])
                        break
        self.assertEqual(ends, {"done", "sour"})

    def check_place(self, program, world):
        name, place = world.where()[-1]
        shape = Shape(program, name)
        filled, resting = world.filled(), world.resting()
        if place == shape.exit:
            if not shape.is_code:
                self.assertTrue(set(shape.results) <= set(filled))
            return
        step = shape.steps[place]
        if step[0] == "put":
            self.assertNotIn(step[1], resting)
        if step[0] == "take":
            self.assertIn(step[2], resting)
        needed = {"mix": step[3:], "scale": step[2:3], "dish": step[3:], "copy": step[2:], "put": step[2:],
                  "call": step[2] if step[0] == "call" else (), "end": step[1] if step[0] == "end" else ()}
        self.assertTrue(set(needed.get(step[0], ())) <= set(filled))


class ErrorTest(unittest.TestCase):
    def test_error_is_a_sour_error(self):
        with self.assertRaises(SourError):
            check_sound(Program(KINDS, WELLS, (), (("p", (), (), (("if", (GET,), ()), ("copy", "x", "x"))),)))


if __name__ == "__main__":
    unittest.main()
