"""Fresh starts and earliest sour reads (points [26], [27], [37])."""

import random
import unittest

from drawing import code_of, draw_code, draw_sound, is_sound
from samples import DAIRY
from second import Shape, earliest_by_runs

from sourwright.code import CodeProgram
from sourwright.errors import InvalidStart, TooLong, UnknownName
from sourwright.flow import written_out
from sourwright.judging import is_fresh, judge
from sourwright.lives import exact_type
from sourwright.papers import paper_holds
from sourwright.programs import Program
from sourwright.texts import show_program
from sourwright.world import World, run

KINDS = (("m", 8), ("n", 20), ("z", 0))
WELLS = (("wm", "m", 2), ("wn", "n", 1), ("wz", "z", 1))
DISHES = (("d", "m", "n", 3),)
READ = ("scale", "x", "x", 1)


def program_of(*body, params=(("x", "m"),), before=()):
    return Program(KINDS, WELLS, DISHES, tuple(before) + (("p", params, (), body),))


def check_verdict(test, program, name, lives, limit=30):
    """Holds a verdict against its own run and against all runs; returns its word."""
    told = judge(program, name, lives)
    test.assertIs(is_fresh(program, name, lives), told[0] == "fresh")
    if told[0] == "fresh":
        test.assertEqual(len(told), 2)
        test.assertTrue(paper_holds(program, name, lives, told[1]))
        expected = None
    else:
        _, answers, expected = told
        test.assertIs(type(answers), tuple)
        event, outcome = run(program, name, lives, answers)
        test.assertEqual((event[:2], outcome), (("sour", expected), None))
        asked = [one for one in World(program, name, lives).events(answers) if one[0] == "asked"]
        test.assertEqual(tuple(one[4] for one in asked), answers)
        limit = expected
    try:
        test.assertEqual(earliest_by_runs(World(program, name, lives), limit), expected)
    except OverflowError:
        pass
    return told[0]


class JudgeTest(unittest.TestCase):
    def test_example(self):
        self.assertEqual((is_fresh(DAIRY, "make", (3,)), judge(DAIRY, "make", (2,))), (True, ("sour", (False,), 3)))
        self.assertIs(is_fresh(program=DAIRY, name="make", lives=[2]), False)
        self.assertEqual(judge(program=DAIRY, name="make", lives=[8])[0], "fresh")

    def test_lives_at_the_need(self):
        program = program_of(("wait", 4), READ)
        self.assertEqual([is_fresh(program, "p", (life,)) for life in (-1, 0, 3, 4, 8)], [False, False, False, True, True])
        for life in (-1, 0, 3):
            self.assertEqual(judge(program, "p", (life,)), ("sour", (), 4))
        program = program_of(("copy", "y", "x"))
        self.assertIs(is_fresh(program, "p", (-1,)), True)
        self.assertEqual(judge(program_of(READ), "p", (-1,)), ("sour", (), 0))

    def test_sours_by_itself(self):
        program = program_of(("get", "z", "wz"), ("wait", 1), ("scale", "z", "z", 1), params=())
        self.assertEqual((is_fresh(program, "p", ()), judge(program, "p", ())), (False, ("sour", (), 2)))

    def test_the_earliest_of_several(self):
        body = (("if", (("wait", 9), READ), (("if", (("wait", 7),), (("wait", 7), ("copy", "y", "x"), READ)), READ)),)
        self.assertEqual(judge(program_of(*body), "p", (0,)), ("sour", (False, True), 9))
        self.assertEqual(judge(program_of(*body), "p", (8,)), ("sour", (False, True), 9))
        body = (("if", (("wait", 1),), (("get", "x", "wz"), ("wait", 5), READ)), ("scale", "x", "x", 1))
        program = program_of(*body, params=(("x", "z"),))
        self.assertEqual(judge(program, "p", (0,)), ("sour", (True,), 2))

    def test_answers_end_with_the_last_one_asked(self):
        body = (("if", (), ()), ("wait", 5), READ, ("if", (), ()))
        told = judge(program_of(*body), "p", (3,))
        self.assertEqual((told[0], len(told[1]), told[2]), ("sour", 1, 6))

    def test_through_calls(self):
        callee = ("c", (("a", "m"), ("b", "m")), ("b",), (("wait", 2), ("scale", "a", "a", 1)))
        body = (("wait", 3), ("call", "c", ("x", "x"), ("x",)), READ)
        program = program_of(*body, before=(callee,))
        for life, tick in ((4, 5), (5, 7), (6, 7)):
            self.assertEqual(judge(program, "p", (life,)), ("sour", (), tick))
        self.assertEqual(judge(program, "p", (7,))[0], "fresh")

    def test_errors_in_order(self):
        far = program_of(*(("wait", 1),) * 81 + (READ,))
        for program in (DAIRY, code_of(DAIRY), far):
            for ask in (is_fresh, judge):
                with self.assertRaises(UnknownName) as caught:
                    ask(program, "cow", (99,))
                self.assertEqual(caught.exception.name, "cow")
                name = program.procedures[0][0]
                for lives, told in (((), ("count", 1)), ((9,), ("life", 0)), ((True,), ("life", 0)), (("3",), ("life", 0))):
                    with self.assertRaises(InvalidStart) as caught:
                        ask(program, name, lives)
                    self.assertEqual((caught.exception.word, caught.exception.index), told)

    def test_too_long(self):
        for steps in (80, 81):
            program = program_of(*(("wait", 1),) * (steps - 1) + (READ,))
            self.assertIs(is_fresh(program, "p", (8,)), False)
            if steps == 80:
                self.assertEqual(judge(program, "p", (8,)), ("sour", (), 79))
            else:
                with self.assertRaises(TooLong) as caught:
                    judge(program, "p", (8,))
                self.assertEqual(caught.exception.steps, 81)
        fresh = program_of(READ, *(("wait", 1),) * 90)
        self.assertEqual(judge(fresh, "p", (0,))[0], "fresh")
        with self.assertRaises(TooLong):
            judge(fresh, "p", (-1,))

    def test_too_long_counts_what_is_called_and_rows(self):
        callee = ("c", (), (), (("wait", 1),) * 39)
        program = program_of(("call", "c", (), ()), ("call", "c", (), ()), READ, before=(callee,))
        with self.assertRaises(TooLong) as caught:
            judge(program, "p", (8,))
        self.assertEqual((caught.exception.steps, written_out(program, "p")), (81, 81))
        rows = (("jump", 1),) * 1 + tuple(("jump", at + 2) for at in range(78)) + (("scale", 0, 0, 1), ("end", ()))
        code = CodeProgram(KINDS, (), (), (("p", ("m",), rows),))
        with self.assertRaises(TooLong) as caught:
            judge(code, "p", (-1,))
        self.assertEqual(caught.exception.steps, 81)
        code = CodeProgram(KINDS, (), (), (("p", ("m",), (("jump", 1), ("scale", 0, 0, 1), ("end", ()))),))
        self.assertEqual(judge(code, "p", (-1,)), ("sour", (), 0))


class LoopTest(unittest.TestCase):
    def test_carried_in_a_name(self):
        program = program_of(("while", (("wait", 1),)), READ)
        for life, rounds in ((-1, 0), (0, 0), (1, 1), (8, 4)):
            self.assertEqual(judge(program, "p", (life,)), ("sour", (True,) * rounds + (False,), 2 * rounds + 1))
        self.assertFalse(is_fresh(program_of(("while", ()), READ), "p", (8,)))

    def test_carried_on_a_shelf(self):
        program = program_of(("put", "s", "x"), ("while", (("wait", 60),)), ("take", "x", "s"), READ)
        self.assertEqual([is_fresh(program, "p", (life,)) for life in (-1, 0, 8)], [False, True, True])
        # Taken and put back in each round, it ages.
        program = program_of(
            ("put", "s", "x"), ("while", (("wait", 60), ("take", "x", "s"), ("wait", 2), ("put", "s", "x"))), ("take", "x", "s"), READ,
        )
        self.assertEqual(judge(program, "p", (5,)), ("sour", (True,) * 3, 2 + 65 * 2 + 63))

    def test_with_a_use_in_each_round(self):
        program = program_of(("while", (("scale", "y", "x", 1), ("wait", 2))))
        self.assertEqual(judge(program, "p", (4,)), ("sour", (True, True), 5))

    def test_made_anew_in_each_round(self):
        def body(ticks):
            return (("while", (READ, ("get", "x", "wm"), ("wait", ticks))),)

        self.assertTrue(is_fresh(program_of(*body(7)), "p", (1,)))
        self.assertEqual(judge(program_of(*body(7)), "p", (0,)), ("sour", (True,), 1))
        self.assertEqual(judge(program_of(*body(8)), "p", (8,)), ("sour", (True, True), 13))

    def test_names_that_go_round(self):
        program = program_of(
            ("get", "y", "wm"), ("get", "z", "wm"),
            ("while", (("copy", "t", "x"), ("copy", "x", "y"), ("copy", "y", "z"), ("copy", "z", "t"))), ("scale", "y", "y", 1),
        )
        check_verdict(self, program, "p", (8,))
        check_verdict(self, program, "p", (-1,))


class SecondWayTest(unittest.TestCase):
    def test_drawn_programs(self):
        chance = random.Random(71)
        words = []
        for number in range(500):
            program = draw_sound(chance, procedures=chance.choice((1, 2, 3)), size=8, most=chance.choice((4, 12, 12, 60)))
            program = code_of(program, chance) if number % 2 else program
            name = program.procedures[-1][0]
            keeps = [program.keep_of(kind) for kind in Shape(program, name).kinds]
            lives = tuple(chance.choice((keep, chance.randrange(-1, keep + 1))) for keep in keeps)
            words.append(check_verdict(self, program, name, lives))
        self.assertGreater(min(words.count("fresh"), words.count("sour")), 60)

    def test_drawn_code(self):
        chance = random.Random(72)
        words = []
        while len(words) < 250:
            code = draw_code(chance)
            if is_sound(code):
                for given in code.procedures:
                    lives = tuple(chance.randrange(-1, code.keep_of(kind) + 1) for kind in given[1])
                    words.append(check_verdict(self, code, given[0], lives))
        self.assertGreater(min(words.count("fresh"), words.count("sour")), 60)

    def test_code_as_its_text(self):
        chance = random.Random(73)
        for _ in range(200):
            program = draw_sound(chance, procedures=2)
            code = code_of(program, chance)
            for given in program.procedures:
                self.assertEqual(exact_type(code, given[0]), exact_type(program, given[0]))
                lives = tuple(chance.randrange(-1, program.keep_of(kind) + 1) for _, kind in given[1])
                one, other = judge(program, given[0], lives), judge(code, given[0], lives)
                self.assertEqual((one[0], one[2:]), (other[0], other[2:]))
                if one[0] == "sour":
                    self.assertEqual(run(code, given[0], lives, one[1])[0][:2], ("sour", one[2]))

    def test_read_from_its_text(self):
        chance = random.Random(74)
        for _ in range(100):
            program = draw_sound(chance)
            again = Program.read(show_program(program))
            lives = tuple(chance.randrange(-1, program.keep_of(kind) + 1) for _, kind in program.procedures[-1][1])
            self.assertEqual(judge(again, "r", lives), judge(program, "r", lives))
            answers = tuple(chance.random() < 0.5 for _ in range(9))
            self.assertEqual(run(again, "r", lives, answers), run(program, "r", lives, answers))


class RewrittenTest(unittest.TestCase):
    """Texts written in another way have the same fresh starts and earliest sour ticks, and runs."""

    def exchanged(self, body):
        return tuple(
            ("if", self.exchanged(step[2]), self.exchanged(step[1])) if step[0] == "if"
            else ("while", self.exchanged(step[1])) if step[0] == "while" else step for step in body
        )

    def unrolled(self, body):
        changed = []
        for step in body:
            if step[0] == "while":
                inner = self.unrolled(step[1])
                step = ("if", inner + (("while", inner),), ())
            elif step[0] == "if":
                step = ("if", self.unrolled(step[1]), self.unrolled(step[2]))
            changed.append(step)
        return tuple(changed)

    def test_ticks_are_the_same(self):
        for number, change in enumerate((self.exchanged, self.unrolled)):
            chance = random.Random(75 + number)
            for _ in range(200):
                program = draw_sound(chance, procedures=1)
                given = program.procedures[0]
                try:
                    other = Program(program.kinds, program.wells, program.dishes, (given[:3] + (change(given[3]),),))
                except ValueError:
                    continue
                lives = tuple(chance.randrange(-1, program.keep_of(kind) + 1) for _, kind in given[1])
                one, two = judge(program, "p", lives), judge(other, "p", lives)
                self.assertEqual((one[0], one[2:]), (two[0], two[2:]))
                if change == self.unrolled:
                    answers = tuple(chance.random() < 0.5 for _ in range(8))
                    first, second = run(program, "p", lives, answers), run(other, "p", lives, answers)
                    self.assertEqual((first[0][:2], first[1]), (second[0][:2], second[1]))


class LimitsTest(unittest.TestCase):
    def test_many_ifs(self):
        fork = ("if", (("wait", 1),), (("wait", 2),))
        for reads in (False, True):
            body = (fork,) * 19 + ((("if", (READ,), ()),) if reads else ())
            told = judge(program_of(*body), "p", (8,))
            self.assertEqual((told[0], told[2:]), ("sour", (39,)) if reads else ("fresh", ()))
        self.assertEqual(told[1], (True,) * 20)

    def test_eighty_steps_with_names_that_go_round(self):
        names = "abcdefgh"

        def turned(many, factor):
            return tuple(("copy", names[(at + 1) % 8], names[at * factor % 8]) for at in range(many))

        loops = ("while", turned(12, 3) + (("while", turned(12, 3) + (("while", turned(12, 5) + (("while", turned(12, 3)),)),)),))
        body = tuple(("get", name, "wk") for name in names[3:]) + (loops,) + (("if", (), ()),) * 20 + (("scale", "a", "a", 1),)
        params = tuple((name, "k") for name in names[:3])
        program = Program((("k", 60),), (("wk", "k", 1),), (), (("p", params, (), body),))
        self.assertLessEqual(written_out(program, "p"), 80)
        told = judge(program, "p", (60, 60, 60))
        self.assertEqual(told[0], "sour")
        self.assertEqual(run(program, "p", (60, 60, 60), told[1])[0][:2], ("sour", told[2]))


if __name__ == "__main__":
    unittest.main()
