"""Promise 33: the mends of many starts are told in a short time, and they are those of before."""

import types
import unittest

from timing import ratio_of_all
from told_mends import ANSWERS

from sourwright.errors import InvalidStart, Unfilled, UnknownName
from sourwright.flow import check_sound
from sourwright.judging import is_fresh
from sourwright.mending import inserted, mends
from sourwright.programs import Program

STARTS = [(Program.read(text), name, lives) for text, name, lives, _ in ANSWERS]


def time_of(starts):
    return ratio_of_all([lambda start=start: list(mends(*start)) for start in starts])


def is_mended(program, name, lives, place, x, well):
    changed = inserted(program, name, place, ("get", x, well))
    try:
        check_sound(changed)
    except Unfilled:
        return False
    return is_fresh(changed, name, lives)


class AnswersTest(unittest.TestCase):
    def test_starts(self):
        self.assertEqual(len({(text, name, lives) for text, name, lives, _ in ANSWERS}), 22)
        self.assertEqual((ANSWERS[0][1:3], len(ANSWERS[0][3])), (("h", (18, 5)), 75))

    def test_answers_of_before(self):
        for (program, name, lives), told in zip(STARTS + STARTS[::-1], ANSWERS + ANSWERS[::-1]):
            self.assertEqual(list(mends(program, name, lives)), told[3], told[:3])

    def test_they_are_all_that_mend(self):
        for program, name, lives in STARTS[:12]:
            procedure = program[name]
            self.assertEqual(list(mends(program, name, lives)), [
                (place, x, well) for place in range(len(procedure) + 1) for x in procedure.names
                for well, kind, _ in program.wells
                if kind == procedure.kind_of(x) and is_mended(program, name, lives, place, x, well)
            ])

    def test_a_generator(self):
        program, name, lives = STARTS[0]
        found = mends(program, name, lives)
        self.assertIsInstance(found, types.GeneratorType)
        other = mends(program, name, list(lives))
        for told in ANSWERS[0][3]:
            self.assertEqual((next(found), next(other)), (told, told))
        self.assertEqual((next(found, None), next(other, None)), (None, None))

    def test_errors_when_iterated(self):
        program, name, _ = STARTS[0]
        for told, lives, error in (("z", (1,), UnknownName), (name, (1,), InvalidStart), (name, (1, 6), InvalidStart)):
            found = mends(program, told, lives)
            with self.assertRaises(error):
                next(found)


class LoopsTest(unittest.TestCase):
    HEAD = "kind m 20\nkind n 3\nwell w m 2\nwell v n 1\n"

    def check(self, lines, lives, told):
        program = Program.read(self.HEAD + lines)
        check_sound(program)
        self.assertEqual(list(mends(program, "p", lives)), told)
        procedure = program["p"]
        self.assertEqual(told, [
            (place, x, well) for place in range(len(procedure) + 1) for x in procedure.names
            for well, kind, _ in program.wells
            if kind == procedure.kind_of(x) and is_mended(program, "p", lives, place, x, well)
        ])

    def test_what_waits_in_a_loop(self):
        self.check(
            "procedure p x:m -> x\nwhile\nwait 1\nend\nscale x x 1\nend", (20,), [(1, "x", "w"), (2, "x", "w")],
        )

    def test_what_a_branch_leaves_as_it_is(self):
        self.check(
            "procedure p x:m -> x\nwhile\nif\nget x w\nelse\nwait 1\nend\nend\nscale x x 1\nend", (20,),
            [(1, "x", "w"), (3, "x", "w"), (4, "x", "w")],
        )

    def test_names_that_go_round(self):
        # What is read comes from another name two rounds before.
        self.check(
            "procedure p x:n y:n z:n -> x\nwhile\ncopy z y\ncopy y x\nget x v\nend\nscale z z 1\nend", (3, 3, 3),
            [(2, "z", "v"), (3, "z", "v"), (4, "z", "v")],
        )
        self.check(
            "procedure p x:m y:m -> x\nwhile\nscale y x 1\ncopy x y\nend\nend", (20, 20),
            [(1, "x", "w"), (2, "y", "w")],
        )

    def test_shelves_that_go_round(self):
        self.check(
            "procedure p x:m y:n ->\nput s y\nwhile\ntake y s\nget x w\nput s y\nend\ntake y s\nscale y y 1\nend",
            (20, 1), [(3, "y", "v"), (4, "y", "v")],
        )
        # Nothing is lost while the value goes to the shelf at once, unless something comes in between.
        self.check(
            "procedure p y:n ->\nput s y\nwhile\ntake y s\nput s y\nend\ntake y s\nscale y y 1\nend", (0,),
            [(place, "y", "v") for place in (0, 1, 2, 3, 4, 5, 6)],
        )

    def test_nested(self):
        self.check(
            "procedure p x:m y:m ->\nwhile\nget x w\nwhile\nscale y x 1\nwait 2\nend\nget y w\nend\nend", (20, -1),
            [(3, "x", "w"), (4, "x", "w")],
        )

    def test_calls_that_take_without_end(self):
        program = Program.read(
            "kind m 60\nwell w m 1\nprocedure q x:m -> x\nwhile\nend\nget x w\nend\n"
            "procedure p x:m y:m -> x\ncall q x -> x\nscale y y 1\nend"
        )
        self.assertEqual(list(mends(program, "p", (60, 60))), [(1, "y", "w")])
        self.assertEqual(list(mends(program, "p", (-1, 60))), [(1, "y", "w")])

    def test_calls_that_sour(self):
        program = Program.read(
            "kind m 1\nwell w m 1\nprocedure q ->\nget x w\nwait 2\nscale x x 1\nend\nprocedure p ->\ncall q ->\nend"
        )
        self.assertEqual((list(mends(program, "p", ())), list(mends(program, "q", ()))), ([], [(2, "x", "w")]))


class TimeTest(unittest.TestCase):
    # In terms of some fixed work; what is asked is 1.1 and 7.5, before it took 2.2 and 15.
    def test_the_first_start(self):
        self.assertLess(time_of(STARTS[:1]), 0.8)

    def test_different_starts_in_turn(self):
        self.assertLess(time_of(STARTS), 6)


if __name__ == "__main__":
    unittest.main()
