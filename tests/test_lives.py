"""Exact and composed life types (points [20], [21], [23], [37])."""

import random
import unittest

from drawing import code_of, draw_code, draw_sound, draw_type, is_sound
from samples import DAIRY, FULL
from second import Chains, Shape

from sourwright.code import CodeProgram
from sourwright.errors import UnknownName
from sourwright.flow import check_sound
from sourwright.lifetypes import LifeType
from sourwright.lives import composed_type, exact_type
from sourwright.programs import Program
from sourwright.rows import LifeRow
from sourwright.texts import show_program

KINDS = (("m", 8), ("n", 20), ("z", 0), ("k", 60))
WELLS = (("wm", "m", 2), ("wn", "n", 1), ("wz", "z", 9), ("wk", "k", 1))
DISHES = (("d", "m", "n", 3), ("e", "n", "m", 9), ("f", "k", "k", 1))


def type_of(*body, params=(("x", "m"),), results=(), before=()):
    """The exact type of a procedure with this body."""
    program = Program(KINDS, WELLS, DISHES, tuple(before) + (("p", params, results, body),))
    check_sound(program)
    return exact_type(program, "p")


def second_type(program, name):
    keeps, needs, took, rows, sours = Chains(program, name).life_type()
    if sours:
        return LifeType.never(keeps, len(rows))
    return LifeType(keeps, needs, took, [LifeRow(left, lost) for left, lost in rows])


class StraightTest(unittest.TestCase):
    def test_examples(self):
        self.assertEqual(repr(exact_type(DAIRY, "make")), "LifeType((8,), (3,), 6, (LifeRow(20, (None,)),), False)")
        self.assertEqual(
            repr(exact_type(program=DAIRY, name="blend").plain()),
            "LifeType((8, 8), (0, 0), 1, (LifeRow(None, (1, 1)),), False)",
        )

    def test_empty(self):
        self.assertEqual(type_of(params=()), LifeType((), (), 0, ()))
        self.assertEqual(type_of(results=("x", "x")), LifeType((8,), (-1,), 0, [LifeRow(None, (0,))] * 2))

    def test_needs_are_the_greatest_counts(self):
        self.assertEqual(type_of(("copy", "y", "x")).needs, (-1,))
        self.assertEqual(type_of(("scale", "x", "x", 1)).needs, (0,))
        self.assertEqual(type_of(("wait", 5), ("mix", "y", "+", "x", "x"), ("scale", "y", "y", 2)).needs, (6,))
        self.assertEqual(type_of(("wait", 60), ("scale", "x", "x", 1)).needs, (60,))
        self.assertEqual(type_of(("wait", 60), ("wait", 1), ("scale", "x", "x", 1)).needs, (61,))
        self.assertTrue(type_of(("wait", 9), ("scale", "x", "x", 1)).is_never)
        self.assertFalse(type_of(("wait", 9), ("scale", "x", "x", 1)).sours)
        # What is read is put; what is taken is not.
        self.assertEqual(type_of(("wait", 3), ("put", "s", "x"), ("take", "x", "s")).needs, (3,))

    def test_shelves_stop_the_clock(self):
        body = (("wait", 3), ("put", "s", "x"), ("wait", 50), ("take", "y", "s"), ("scale", "y", "y", 1))
        self.assertEqual(type_of(*body, results=("y",)), LifeType((8,), (3,), 56, (LifeRow(None, (4,)),)))

    def test_results(self):
        get = ("get", "y", "wn")
        self.assertEqual(type_of(get, results=("y",)).rows, (LifeRow(20, (None,)),))
        self.assertEqual(type_of(get, ("wait", 20), results=("y",)).rows, (LifeRow(0, (None,)),))
        self.assertEqual(type_of(get, ("wait", 21), results=("y",)).rows, (LifeRow(-1, (None,)),))
        self.assertEqual(type_of(get, ("wait", 60), results=("y",)).rows, (LifeRow(-1, (None,)),))
        self.assertEqual(type_of(("wait", 60), results=("x",)).rows, (LifeRow(None, (60,)),))
        self.assertEqual(type_of(("wait", 60), ("wait", 1), results=("x",)).rows, (LifeRow(None, (61,)),))
        body = (("get", "y", "wm"), ("mix", "y", "+", "x", "y"))
        self.assertEqual(type_of(*body, results=("y", "x")).rows, (LifeRow(7, (3,)), LifeRow(None, (3,))))

    def test_keeps_of_zero_and_sixty(self):
        self.assertEqual(type_of(("get", "z", "wz"), ("scale", "z", "z", 1), results=("z",)).rows, (LifeRow(-1, (None,)),))
        self.assertEqual(type_of(("get", "z", "wz"), results=("z",)).rows, (LifeRow(0, (None,)),))
        self.assertTrue(type_of(("get", "z", "wz"), ("wait", 1), ("scale", "z", "z", 1)).sours)
        self.assertFalse(type_of(("get", "k", "wk"), ("wait", 60), ("scale", "k", "k", 1)).sours)
        self.assertTrue(type_of(("get", "k", "wk"), ("wait", 60), ("wait", 1), ("scale", "k", "k", 1)).sours)

    def test_a_new_value_read_too_late(self):
        body = (("get", "y", "wm"), ("wait", 8), ("scale", "y", "y", 1))
        self.assertFalse(type_of(*body).is_never)
        body = (("get", "y", "wm"), ("wait", 9), ("scale", "y", "y", 1))
        self.assertEqual(type_of(*body, results=("y", "x")), LifeType.never((8,), 2))

    def test_took(self):
        for ticks, took in ((59, 59), (60, 60), (61, 61), (90, 61)):
            body = (("wait", min(ticks, 60)),) + (("wait", 1),) * (ticks - 60)
            self.assertEqual(type_of(*body).took, took)


class LoopTest(unittest.TestCase):
    def test_choices(self):
        body = (("if", (("wait", 3),), (("get", "x", "wm"),)), ("scale", "y", "x", 1))
        self.assertEqual(type_of(*body, results=("y", "x")), LifeType((8,), (4,), 5, [LifeRow(7, (5,))] * 2))

    def test_a_value_carried_through_a_loop(self):
        loop = ("while", (("wait", 1),))
        self.assertEqual(type_of(loop, ("scale", "x", "x", 1)).needs, (61,))
        self.assertEqual(type_of(loop, results=("x",)), LifeType((8,), (-1,), 61, (LifeRow(None, (61,)),)))
        body = (("get", "y", "wk"), loop)
        self.assertEqual(type_of(*body, results=("y",)).rows, (LifeRow(-1, (None,)),))
        self.assertTrue(type_of(*body, ("scale", "y", "y", 1)).sours)

    def test_a_value_on_a_shelf(self):
        body = (("put", "s", "x"), ("while", (("wait", 60),)), ("take", "x", "s"), ("scale", "x", "x", 1))
        self.assertEqual(type_of(*body, results=("x",)), LifeType((8,), (0,), 61, (LifeRow(None, (1,)),)))

    def test_a_value_made_anew_in_each_round(self):
        def kept(ticks):
            return type_of(("while", (("scale", "x", "x", 1), ("wait", ticks), ("get", "x", "wm"))))

        self.assertEqual(kept(1).needs, (1,))
        self.assertFalse(kept(60).is_never)
        late = type_of(("while", (("scale", "x", "x", 1), ("get", "x", "wm"), ("wait", 7))))
        self.assertEqual((late.needs, late.sours), ((1,), False))
        late = type_of(("while", (("scale", "x", "x", 1), ("get", "x", "wm"), ("wait", 8))))
        self.assertTrue(late.sours)

    def test_an_empty_body(self):
        self.assertEqual(type_of(("while", ()), results=("x",)).rows, (LifeRow(None, (61,)),))

    def test_counts_at_the_end_of_what_counts(self):
        self.assertEqual(type_of(("wait", 60), ("if", (), ()), results=("x",)).rows, (LifeRow(None, (61,)),))
        self.assertEqual(type_of(("wait", 58), ("if", (), (("wait", 1),)), results=("x",)).rows, (LifeRow(None, (60,)),))


class CallTest(unittest.TestCase):
    WAIT = ("w", (("x", "m"),), ("x", "x"), (("wait", 2),))
    READ = ("r", (("x", "m"), ("y", "m")), ("y",), (("wait", 4), ("scale", "x", "x", 1), ("get", "y", "wm")))

    def test_a_call_takes_one_tick_more(self):
        made = type_of(("call", "w", ("x",), ("y", "n")), ("scale", "y", "y", 1), results=("y", "n", "x"), before=(self.WAIT,))
        self.assertEqual(made, LifeType((8,), (3,), 4, [LifeRow(None, (4,))] * 3))

    def test_one_value_handed_over_twice(self):
        made = type_of(("wait", 1), ("call", "r", ("x", "x"), ("y",)), results=("y",), before=(self.READ,))
        self.assertEqual(made, LifeType((8,), (5,), 9, (LifeRow(7, (None,)),)))

    def test_a_callee_that_sours(self):
        bad = ("b", (), (), (("get", "z", "wz"), ("wait", 1), ("scale", "z", "z", 1)))
        made = type_of(("while", (("call", "b", (), ()),)), results=("x",), before=(bad,))
        self.assertEqual(made, LifeType.never((8,), 1))

    def test_a_callee_that_needs_more_than_the_keep(self):
        late = ("l", (("x", "m"),), (), (("wait", 9), ("scale", "x", "x", 1)))
        self.assertEqual(type_of(("call", "l", ("x",), ()), before=(late,)), LifeType((8,), (9,), 11, ()))
        made = type_of(("get", "y", "wm"), ("call", "l", ("y",), ()), before=(late,))
        self.assertEqual(made, LifeType.never((8,), 0))


class SecondWayTest(unittest.TestCase):
    def test_drawn_programs(self):
        chance = random.Random(51)
        never = 0
        for number in range(500):
            program = draw_sound(chance, procedures=chance.choice((1, 2, 3)), most=chance.choice((4, 12, 60)))
            program = code_of(program, chance) if number % 3 == 0 else program
            name = program.procedures[-1][0]
            made = exact_type(program, name)
            self.assertEqual(made, second_type(program, name))
            never += made.is_never
        self.assertGreater(never, 20)

    def test_drawn_code(self):
        chance = random.Random(52)
        many = 0
        while many < 200:
            code = draw_code(chance)
            if is_sound(code):
                many += 1
                for given in code.procedures:
                    self.assertEqual(exact_type(code, given[0]), second_type(code, given[0]))


class ComposedTest(unittest.TestCase):
    PROGRAM = Program(KINDS, WELLS, DISHES, (
        ("f", (("x", "m"), ("y", "m")), ("x", "y"), ()), ("g", (), (), ()),
        ("p", (("x", "m"), ("y", "m")), ("a", "b", "x"), (("wait", 1), ("call", "f", ("x", "y"), ("a", "b")))),
        ("q", (), ("a",), (("get", "a", "wm"), ("wait", 2), ("call", "f", ("a", "a"), ("a", "b")), ("scale", "b", "b", 1))),
    ))

    def composed(self, name, needs, took, rows, **more):
        return composed_type(self.PROGRAM, name, {"f": LifeType((8, 8), needs, took, rows, **more)})

    def test_by_given_types(self):
        rows = (LifeRow(5, (2, None)), LifeRow(None, (None, 60)))
        self.assertEqual(
            self.composed("p", (3, -1), 7, rows),
            LifeType((8, 8), (4, -1), 9, (LifeRow(4, (4, None)), LifeRow(None, (None, 61)), LifeRow(None, (9, None)))),
        )
        self.assertEqual(
            self.composed("p", (60, 61), 60, rows),
            LifeType((8, 8), (61, 61), 61, (LifeRow(4, (4, None)), LifeRow(None, (None, 61)), LifeRow(None, (61, None)))),
        )
        self.assertEqual(self.composed("p", (-1, -1), 61, rows).rows[2], LifeRow(None, (61, None)))
        self.assertEqual(self.composed("p", (0, 0), 57, rows).took, 59)

    def test_left_of_zero_and_rows_of_none(self):
        rows = (LifeRow(0, (None, None)), None)
        made = self.composed("p", (-1, -1), 0, rows)
        self.assertEqual(made.rows[:2], (LifeRow(-1, (None, None)), LifeRow(-1, (None, None))))
        self.assertEqual(self.composed("q", (-1, -1), 0, rows), LifeType.never((), 1))
        self.assertEqual(self.composed("q", (-1, -1), 0, (None, LifeRow(1, (None, None)))).rows, (LifeRow(-1, ()),))

    def test_births_handed_over(self):
        row = LifeRow(None, (1, 2))
        self.assertEqual(self.composed("q", (6, 6), 9, (row, row)).rows, (LifeRow(2, ()),))
        self.assertEqual(self.composed("q", (7, -1), 9, (row, row)), LifeType.never((), 1))

    def test_a_type_that_sours(self):
        self.assertEqual(self.composed("p", (-1, -1), 0, (None, None), sours=True), LifeType.never((8, 8), 3))
        self.assertEqual(composed_type(self.PROGRAM, "g", {"f": LifeType.never((8, 8), 2)}), LifeType((), (), 0, ()))

    def test_other_names_change_nothing_and_the_dict_stays(self):
        one = LifeType((8, 8), (3, -1), 7, (LifeRow(5, (2, None)), None))
        types = {"f": one, "g": LifeType.never((), 0), "p": LifeType.never((8, 8), 3), "other": LifeType((), (), 1, ())}
        before = dict(types)
        self.assertEqual(composed_type(program=self.PROGRAM, name="p", types=types), composed_type(self.PROGRAM, "p", {"f": one}))
        self.assertEqual(list(types.items()), list(before.items()))

    def test_exact_types_composed_are_exact(self):
        chance = random.Random(53)
        for number in range(300):
            program = draw_sound(chance, procedures=4)
            program = code_of(program, chance) if number % 3 == 0 else program
            types = {}
            for given in program.procedures:
                exact = exact_type(program, given[0])
                self.assertEqual(composed_type(program, given[0], types), exact)
                types[given[0]] = exact

    def test_code_composes_as_its_text(self):
        chance = random.Random(54)
        for _ in range(300):
            program = draw_sound(chance, procedures=3)
            types = {}
            for given in program.procedures:
                one = program[given[0]]
                keeps = tuple(program.keep_of(kind) for _, kind in one.params)
                types[given[0]] = draw_type(chance, keeps, len(one.results))
            for name in ("p", "q", "r"):
                self.assertEqual(composed_type(program, name, types), composed_type(code_of(program, chance), name, types))


class ErrorTest(unittest.TestCase):
    def test_unknown(self):
        for program in (DAIRY, code_of(DAIRY)):
            for name in ("milk", "cow", "", "y"):
                for ask in (lambda: exact_type(program, name), lambda: composed_type(program, name, {})):
                    with self.assertRaises(UnknownName) as caught:
                        ask()
                    self.assertEqual(caught.exception.name, name)


class RewrittenTest(unittest.TestCase):
    """Types of texts that are written in another way."""

    def test_a_program_read_from_its_text(self):
        chance = random.Random(55)
        for _ in range(150):
            program = draw_sound(chance)
            again = Program.read(show_program(program))
            self.assertEqual(again, program)
            for name in ("p", "q", "r"):
                self.assertEqual(exact_type(again, name), exact_type(program, name))

    def test_bodies_exchanged(self):
        def exchanged(body):
            changed = []
            for step in body:
                if step[0] == "if":
                    step = ("if", exchanged(step[2]), exchanged(step[1]))
                elif step[0] == "while":
                    step = ("while", exchanged(step[1]))
                changed.append(step)
            return tuple(changed)

        self.check(exchanged)

    def test_the_first_question_of_a_while_asked_by_an_if(self):
        # The if asks the first question; the while behind the first round asks the ones that follow.
        def unrolled(body):
            changed = []
            for step in body:
                if step[0] == "while":
                    inner = unrolled(step[1])
                    step = ("if", inner + (("while", inner),), ())
                elif step[0] == "if":
                    step = ("if", unrolled(step[1]), unrolled(step[2]))
                changed.append(step)
            return tuple(changed)

        self.check(unrolled)

    def check(self, change):
        chance = random.Random(56)
        for _ in range(300):
            program = draw_sound(chance, most=chance.choice((12, 60)))
            procedures = [one[:3] + (change(one[3]),) for one in program.procedures]
            try:
                other = Program(program.kinds, program.wells, program.dishes, procedures)
            except ValueError:
                # A name may now get its kind too late.
                continue
            for name in ("p", "q", "r"):
                self.assertEqual(exact_type(other, name), exact_type(program, name))

    def test_the_beginning_put_into_a_procedure_that_is_called(self):
        chance = random.Random(57)
        many = 0
        while many < 150:
            program = draw_sound(chance, procedures=2)
            given = program.procedures[-1]
            cut = chance.randrange(len(given[3]) + 1)
            split = split_program(program, given, cut)
            if split is None:
                continue
            many += 1
            waiting = given[:3] + (given[3][:cut] + (("wait", 1),) + given[3][cut:],)
            whole = Program(program.kinds, program.wells, program.dishes, program.procedures[:-1] + (waiting,))
            self.assertEqual(exact_type(split, given[0]), exact_type(whole, given[0]))


def split_program(program, given, cut):
    """The program in which the beginning of its last procedure is a procedure of its own, or None."""
    name, params, results, body = given
    if any(step[0] in ("put", "take") for step in Shape(program, name).steps):
        return None
    names = program[name].names
    first = ("first", params, names, body[:cut])
    call = ("call", "first", tuple(param for param, _ in params), names)
    try:
        split = Program(
            program.kinds, program.wells, program.dishes,
            program.procedures[:-1] + (first, (name, params, results, (call,) + body[cut:])),
        )
    except ValueError:
        return None
    return split if is_sound(split) else None


class LimitsTest(unittest.TestCase):
    def test_sixty_steps(self):
        fork = ("if", (("scale", "x", "x", 1),), (("wait", 1), ("copy", "y", "x")))
        made = type_of(*(fork,) * 15, results=("x",))
        self.assertEqual(made, LifeType((8,), (43,), 45, (LifeRow(None, (45,)),)))

    def test_calls_of_calls(self):
        made = [("aa", (("x", "k"),), ("x",), tuple(("scale", "x", "x", 1) for _ in range(18)))]
        for elder, name in zip("abcdefghi", "bcdefghij"):
            call = ("call", "a" + elder, ("x",), ("x",))
            made.append(("a" + name, (("x", "k"),), ("x",), (call, call, ("get", "x", "wk"))))
        program = Program(KINDS, WELLS, DISHES, made)
        self.assertEqual(exact_type(program, "aj"), LifeType((60,), (36,), 61, (LifeRow(60, (None,)),)))

    def test_names_that_go_round_in_nested_loops(self):
        names = "abcdefgh"

        def turned(many):
            return tuple(("copy", names[(at + 1) % 8], names[at % 8]) for at in range(many))

        loops = ("while", turned(9) + (("while", turned(9) + (("while", turned(9) + (("while", turned(9)),)),)),))
        body = tuple(("get", name, "wk") for name in names[3:]) + (loops,)
        params = tuple((name, "k") for name in names[:3])
        program = Program(KINDS, WELLS, DISHES, (("p", params, ("a", "h"), body),))
        made = exact_type(program, "p")
        self.assertEqual(made, second_type(program, "p"))
        self.assertEqual((made.needs, made.took, made.rows[0].lost), ((-1, -1, -1), 61, (61, None, None)))


class CodeTest(unittest.TestCase):
    def test_several_ends_and_jumps(self):
        rows = (("ask", 4), ("wait", 3), ("jump", 3), ("end", (0, 1)), ("get", 1, "wm", 0), ("end", (1, 0)))
        code = CodeProgram(KINDS, WELLS, DISHES, (("p", ("m", "m"), rows),))
        self.assertEqual(exact_type(code, "p"), LifeType((8, 8), (-1, -1), 4, (LifeRow(8, (4, None)), LifeRow(None, (3, 4)))))

    def test_a_loop_of_an_ask_and_a_jump(self):
        code = CodeProgram(KINDS, (), (), (("p", ("m",), (("ask", 2), ("jump", 0), ("end", (0, 0)))),))
        self.assertEqual(exact_type(code, "p"), LifeType((8,), (-1,), 61, [LifeRow(None, (61,))] * 2))

    def test_full(self):
        self.assertEqual([exact_type(code_of(FULL), name) for name in ("make", "blend", "none", "many", "all")],
                         [exact_type(FULL, name) for name in ("make", "blend", "none", "many", "all")])


if __name__ == "__main__":
    unittest.main()
