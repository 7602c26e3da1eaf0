"""Steps put in, gets that mend, and rests (points [32] to [34])."""

import inspect
import random
import unittest

from drawing import draw_sound, is_sound
from samples import ALL_FORMS, BLEND, DAIRY, DISHES, FULL, KINDS, MAKE, MANY, NONE, WELLS, nested

from sourwright.errors import InvalidProgram, InvalidStart, Unfilled, UnknownName
from sourwright.flow import check_sound, steps, written_out
from sourwright.judging import is_fresh, judge
from sourwright.lives import exact_type
from sourwright.mending import inserted, mends, rested
from sourwright.programs import Program
from sourwright.world import run

STEP = ("wait", 7)


def body_of(program, name):
    return program[name].body


def fault(function, *given):
    """The word, procedure and place of the error in the program that is put together."""
    try:
        function(*given)
    except InvalidProgram as error:
        return (error.word, error.procedure, error.place)
    return None


def all_gets(program, name):
    """The triples of all gets that could be put in, in the order told."""
    one = program[name]
    return [
        (place, x, well) for place in range(len(one) + 1) for x in one.names for well, kind, _ in program.wells
        if one.kind_of(x) == kind
    ]


def mends_by_trying(program, name, lives):
    found = []
    for place, x, well in all_gets(program, name):
        try:
            mended = inserted(program, name, place, ("get", x, well))
            check_sound(mended)
        except (InvalidProgram, Unfilled):
            continue
        if is_fresh(mended, name, lives):
            found.append((place, x, well))
    return found


def draw_start(chance, program, name):
    return tuple(chance.randrange(-1, program.keep_of(kind) + 1) for _, kind in program[name].params)


class InsertedTest(unittest.TestCase):
    def test_every_place(self):
        ifs, dish = MAKE[3]
        get, wait = ("get", "x", "cow"), ("wait", 2)
        expected = (
            (STEP, ifs, dish),
            (("if", (STEP, get), (wait,)), dish),
            (("if", (get,), (STEP, wait)), dish),
            (ifs, STEP, dish),
            (ifs, dish, STEP),
        )
        for place, body in enumerate(expected):
            made = inserted(DAIRY, "make", place, STEP)
            self.assertEqual(made.procedures, ((MAKE[:3] + (body,)), BLEND))
            self.assertEqual((made.kinds, made.wells, made.dishes), (KINDS, WELLS, DISHES))
        self.assertEqual(DAIRY.procedures, (MAKE, BLEND))

    def test_by_name(self):
        made = inserted(step=STEP, place=0, name="blend", program=DAIRY)
        self.assertEqual(body_of(made, "blend"), (STEP,) + BLEND[3])

    def test_every_place_of_drawn_programs(self):
        # The step there comes one place later, all before it stays, and the body is the same without the step put in.
        chance = random.Random(11)
        for _ in range(40):
            program = draw_sound(chance, size=12)
            for name, params, results, _ in program.procedures:
                one = program[name]
                for place in range(len(one) + 1):
                    made = inserted(program, name, place, STEP)
                    told = [step[:1] for step in steps(made[name])]
                    before = [step[:1] for step in steps(one)]
                    self.assertEqual(told, before[:place] + [("wait",)] + before[place:])
                    self.assertEqual(steps(made[name])[place], STEP)
                    self.assertEqual((made[name].params, made[name].results), (params, results))

    def test_empty_bodies_and_the_exit(self):
        program = Program(KINDS, (), (), (("p", (), (), (("while", ()), ("if", (), ()))),))
        bodies = [body_of(inserted(program, "p", place, STEP), "p") for place in range(3)]
        empty = program["p"].body
        self.assertEqual(bodies, [(STEP,) + empty, empty[:1] + (STEP,) + empty[1:], empty + (STEP,)])
        self.assertEqual(body_of(inserted(FULL, "none", 0, STEP), "none"), (STEP,))

    def test_steps_with_bodies(self):
        made = inserted(DAIRY, "blend", 1, ("while", (("wait", 1),)))
        self.assertEqual(len(made["blend"]), 3)

    def test_errors(self):
        for name in ("nope", "", None, "milk"):
            with self.assertRaises(UnknownName) as caught:
                inserted(DAIRY, name, 99, None)
            self.assertEqual(caught.exception.name, name)
        for step in (None, 7, (), "wait", ["wait", 1], ("wait", 0), ("wait", True), ("stir", 1), ("get", "x"), (("wait", 1),)):
            self.assertEqual(fault(inserted, DAIRY, "make", 2, step), ("step", 0, 2), step)
            self.assertEqual(fault(inserted, DAIRY, "blend", 1, step), ("step", 1, 1), step)
        self.assertEqual(fault(inserted, DAIRY, "make", 4, ("get", "x", "goat")), ("unknown", 0, 4))
        self.assertEqual(fault(inserted, DAIRY, "make", 0, ("call", "blend", ("x", "x"), ("x",))), ("unknown", 0, 0))
        self.assertEqual(fault(inserted, DAIRY, "blend", 0, ("call", "make", (), ("a",))), ("count", 1, 0))
        self.assertEqual(fault(inserted, DAIRY, "make", 1, ("put", "y", "x")), ("shelf", 0, -1))
        self.assertEqual(fault(inserted, DAIRY, "make", 4, ("get", "y", "cow")), ("kind", 0, 4))
        # The new step gives its kind first, so that a later one is wrong.
        self.assertEqual(fault(inserted, DAIRY, "make", 0, ("get", "y", "cow")), ("kind", 0, 4))
        self.assertEqual(fault(inserted, DAIRY, "make", 0, ("copy", "z", "y")), ("kind", 0, 0))

    def test_too_many_bodies(self):
        program = Program(KINDS, (), (), (("p", (), (), nested(8)),))
        self.assertEqual(fault(inserted, program, "p", 7, ("while", ())), None)
        self.assertEqual(fault(inserted, program, "p", 7, ("while", (("while", ()),))), ("step", 0, 8))
        deep = ()
        for _ in range(9):
            deep = (("while", deep),)
        self.assertEqual(fault(inserted, DAIRY, "make", 1, deep[0]), ("step", 0, 8))
        program = Program(KINDS, (), (), (("p", (), (), nested(7) + (("wait", 1),)),))
        self.assertEqual(fault(inserted, program, "p", 7, deep[0]), ("step", 0, 15))

    def test_order_of_two_gets(self):
        chance = random.Random(12)
        for _ in range(60):
            program = draw_sound(chance, size=10)
            name = chance.choice(program.procedures)[0]
            gets = all_gets(program, name)
            if not gets:
                continue
            one, two = sorted((chance.choice(gets), chance.choice(gets)))
            first, second = ("get",) + one[1:], ("get",) + two[1:]
            later = inserted(inserted(program, name, two[0], second), name, one[0], first)
            earlier = inserted(inserted(program, name, one[0], first), name, two[0] + 1, second)
            self.assertEqual(later, earlier)


class MendsTest(unittest.TestCase):
    def test_example(self):
        expected = [(0, "x", "cow"), (2, "x", "cow"), (3, "x", "cow")]
        self.assertEqual(list(mends(DAIRY, "make", (2,))), expected)
        self.assertEqual(list(mends(lives=[2], name="make", program=DAIRY)), expected)

    def test_it_is_a_generator(self):
        self.assertTrue(inspect.isgenerator(mends(DAIRY, "make", (2,))))
        self.assertTrue(inspect.isgenerator(mends(DAIRY, "nope", None)))

    def test_errors_when_first_iterated(self):
        for name, lives, kind, values in (
            ("nope", (2,), UnknownName, ("nope",)), ("nope", (), UnknownName, ("nope",)),
            ("make", (), InvalidStart, ("count", 1)), ("make", (2, 2), InvalidStart, ("count", 1)),
            ("make", (9,), InvalidStart, ("life", 0)), ("make", (-2,), InvalidStart, ("life", 0)),
            ("make", (True,), InvalidStart, ("life", 0)), ("blend", [8, "x"], InvalidStart, ("life", 1)),
        ):
            given = mends(DAIRY, name, lives)
            with self.assertRaises(kind) as caught:
                next(given)
            told = caught.exception
            self.assertEqual((told.name,) if kind is UnknownName else (told.word, told.index), values)

    def test_order(self):
        kinds, wells = (("k", 20),), (("wz", "k", 1), ("wa", "k", 9), ("wb", "k", 1))
        program = Program(kinds, wells, (), (("p", (("b", "k"), ("a", "k")), (), (("wait", 1),)),))
        expected = [(place, x, well) for place in (0, 1) for x in ("a", "b") for well in ("wz", "wa", "wb")]
        self.assertEqual(list(mends(program, "p", (0, 0))), expected)

    def test_ticks_of_wells(self):
        kinds, wells = (("k", 20), ("m", 5)), (("wa", "k", 5), ("wb", "k", 4), ("wc", "m", 1), ("wd", "k", 6))
        body = (("scale", "a", "a", 1), ("scale", "b", "b", 1))
        program = Program(kinds, wells, (), (("p", (("a", "k"), ("b", "m")), (), body),))
        self.assertEqual(
            [one for one in mends(program, "p", (0, 5)) if one[1] == "a"],
            [(0, "a", "wb"), (1, "a", "wb"), (2, "a", "wa"), (2, "a", "wb"), (2, "a", "wd")],
        )
        # Each later read of b is at tick 1 without a get.
        self.assertEqual([one for one in mends(program, "p", (0, 0)) if one[1] == "a"], [])
        self.assertEqual([one for one in mends(program, "p", (0, 1)) if one[1] == "a"][:1], [(2, "a", "wa")])

    def test_what_is_put_in_may_sour_itself(self):
        program = Program((("k", 1),), (("w", "k", 1),), (), (("p", (("x", "k"),), (), (("wait", 2), ("scale", "x", "x", 1))),))
        self.assertEqual(list(mends(program, "p", (1,))), [(1, "x", "w")])

    def test_shelves_are_no_names(self):
        program = Program((("k", 9),), (("w", "k", 1),), (), (("p", (("x", "k"),), (), (("put", "s", "x"), ("take", "x", "s"))),))
        self.assertEqual(
            list(mends(program, "p", (9,))), [(0, "x", "w"), (1, "x", "w"), (2, "x", "w")],
        )

    def check(self, program, name, lives):
        told = list(mends(program, name, lives))
        self.assertEqual(told, mends_by_trying(program, name, lives))
        for place, x, well in told:
            mended = exact_type(inserted(program, name, place, ("get", x, well)), name)
            self.assertFalse(mended.sours)
            self.assertTrue(all(need <= life for need, life in zip(mended.needs, lives)))
        for place, x, well in set(all_gets(program, name)) - set(told):
            other = inserted(program, name, place, ("get", x, well))
            self.assertTrue(is_sound(other))
            if written_out(other, name) <= 80:
                word, answers, tick = judge(other, name, lives)
                self.assertEqual(run(other, name, lives, answers)[0][:2], ("sour", tick))
                self.assertEqual(word, "sour")
        return told

    def test_drawn_programs(self):
        chance = random.Random(13)
        sour = fresh = some = 0
        for _ in range(70):
            program = draw_sound(chance, procedures=2, size=8)
            name = chance.choice(program.procedures)[0]
            lives = draw_start(chance, program, name)
            told = self.check(program, name, lives)
            if is_fresh(program, name, lives):
                fresh += 1
            else:
                sour += 1
                some += len(told) > 0
            more = tuple(min(life + 1, program.keep_of(kind)) for life, (_, kind) in zip(lives, program[name].params))
            self.assertLessEqual(set(told), set(mends(program, name, more)))
        self.assertGreater(min(sour, fresh), 15)
        self.assertGreater(some, 8)

    def test_a_mended_run_reads_nothing_sour(self):
        chance = random.Random(14)
        tried = 0
        while tried < 60:
            program = draw_sound(chance, procedures=2, size=8)
            name = program.procedures[-1][0]
            lives = draw_start(chance, program, name)
            for place, x, well in list(mends(program, name, lives))[:3]:
                mended = inserted(program, name, place, ("get", x, well))
                for _ in range(5):
                    answers = tuple(chance.random() < 0.6 for _ in range(12))
                    self.assertIn(run(mended, name, lives, answers)[0][0], ("done", "asks"))
                tried += 1

    def test_a_procedure_at_the_limits(self):
        kinds = (("k", 60), ("l", 60), ("m", 60), ("n", 60))
        wells = tuple((f"w{letter}", kind, ticks) for letter, kind, ticks in (
            ("a", "k", 1), ("b", "k", 5), ("c", "l", 2), ("d", "l", 9), ("e", "m", 3), ("f", "n", 4)))
        below = ("low", (("a", "k"),), ("a",), tuple(
            ("scale", "a", "a", 1) if at % 2 else ("get", "a", "wb") for at in range(40)))
        names = (("a", "k"), ("b", "k"), ("c", "l"), ("d", "l"), ("e", "m"), ("f", "m"), ("g", "n"), ("h", "n"))
        body = tuple(("get", one, dict(k="wa", l="wc", m="we", n="wf")[kind]) for one, kind in names)
        body += tuple(("scale", one, one, 1) for one, _ in names)
        loop = tuple(("get", one, dict(k="wa", l="wc", m="we", n="wf")[kind]) for one, kind in names)
        body += (("call", "low", ("a",), ("a",)), ("while", (("if", loop, (("call", "low", ("b",), ("b",)),)),)))
        body += tuple(("wait", 1) for _ in range(60 - 8 - 8 - 4 - 8))
        program = Program(kinds, wells, (), (below, ("p", (), ("a",), body)))
        self.assertEqual((len(program["p"]), written_out(program, "p")), (60, 140))
        self.assertEqual(len(list(mends(program, "p", ()))), len(all_gets(program, "p")))


class RestedTest(unittest.TestCase):
    BODY = (("get", "a", "cow"), ("wait", 9), ("if", (("scale", "a", "a", 1), ("wait", 1)), (("wait", 2), ("wait", 3))))
    PROGRAM = Program(KINDS, WELLS, DISHES, (("p", (), ("a",), BODY + (("scale", "a", "a", 1),)),))

    def test_in_the_body(self):
        made = rested(self.PROGRAM, "p", 1, 2, "a")
        expected = (self.BODY[0], ("put", "b", "a"), self.BODY[1], ("take", "a", "b")) + self.PROGRAM["p"].body[2:]
        self.assertEqual(made.procedures, (("p", (), ("a",), expected),))
        self.assertEqual(self.PROGRAM["p"].body[:3], self.BODY)
        self.assertEqual(made, rested(x="a", later=2, place=1, name="p", program=self.PROGRAM))

    def test_over_a_step_with_bodies(self):
        made = rested(self.PROGRAM, "p", 2, 7, "a")
        self.assertEqual(
            made["p"].body, self.BODY[:2] + (("put", "b", "a"), self.BODY[2], ("take", "a", "b"), ("scale", "a", "a", 1)),
        )

    def test_in_inner_bodies(self):
        ask, yes, no = self.BODY[2]
        for places, inner in (
            ((3, 4), ("if", (("put", "b", "a"), yes[0], ("take", "a", "b"), yes[1]), no)),
            ((5, 6), ("if", yes, (("put", "b", "a"), no[0], ("take", "a", "b"), no[1]))),
        ):
            made = rested(self.PROGRAM, "p", places[0], places[1], "a")
            self.assertEqual(made["p"].body[2], inner)

    def test_the_first_free_letter(self):
        body = (("get", "b", "cow"), ("put", "a", "b"), ("take", "d", "a"), ("wait", 1), ("wait", 2))
        program = Program(KINDS, WELLS, (), (("c", (), ("c",), (("get", "c", "cow"),) + body),))
        made = rested(program, "c", 4, 5, "d")
        self.assertEqual(made["c"].body[4:], (("put", "e", "d"), ("wait", 1), ("take", "d", "e"), ("wait", 2)))

    def test_it_mends(self):
        self.assertFalse(is_fresh(self.PROGRAM, "p", ()))
        self.assertTrue(is_fresh(rested(self.PROGRAM, "p", 1, 2, "a"), "p", ()))

    def test_errors(self):
        with self.assertRaises(UnknownName) as caught:
            rested(self.PROGRAM, "q", 0, 1, None)
        self.assertEqual(caught.exception.name, "q")
        for x in (None, 3, "", "if", "toolong", ("a",)):
            self.assertEqual(fault(rested, self.PROGRAM, "p", 1, 2, x), ("step", 0, 1), x)
        # This name is the new shelf, too.
        self.assertEqual(fault(rested, self.PROGRAM, "p", 1, 2, "b"), ("shelf", 0, -1))
        self.assertEqual(fault(rested, self.PROGRAM, "p", 0, 1, "a"), ("kind", 0, 0))
        self.assertEqual(fault(rested, self.PROGRAM, "p", 1, 2, "z"), ("kind", 0, 1))
        program = Program(KINDS, WELLS, (), (MANY, NONE, ("p", (), (), (("wait", 1), ("wait", 2)))))
        self.assertEqual(fault(rested, program, "p", 0, 1, "a"), ("shelf", 2, -1))
        self.assertEqual(fault(rested, program, "p", 0, 1, "c"), ("kind", 2, 0))

    def test_all_forms(self):
        made = rested(FULL, "all", 0, 5, "b")
        self.assertEqual(made["all"].body[0], ("put", "d", "b"))
        self.assertEqual(made["all"].body[6], ("take", "b", "d"))
        self.assertEqual(FULL["all"].body, ALL_FORMS[3])


if __name__ == "__main__":
    unittest.main()
