"""Promises 39 to 41: many programs are compiled in a short time, to what they were compiled to before."""

import unittest

from timing import ratio_of_all
from told_code import ANSWERS

from sourwright.compiling import compiled, fewest_cups
from sourwright.errors import NoRoom
from sourwright.flow import check_sound
from sourwright.locations import locations_hold
from sourwright.programs import Program

PROGRAMS = [(Program.read(text), limits) for text, limits, _ in ANSWERS]


def answer(program, limits):
    try:
        code, tables = compiled(program, **limits)
    except NoRoom as error:
        return ("NoRoom", error.procedure, error.number)
    return (code.procedures, tables)


def time_of(programs):
    return ratio_of_all([lambda pair=pair: answer(*pair) for pair in programs])


class AnswersTest(unittest.TestCase):
    def test_programs(self):
        self.assertEqual(len({text for text, _, _ in ANSWERS}), 23)
        self.assertEqual((ANSWERS[0][:2], ANSWERS[1][:2]), ((ANSWERS[1][0], {}), (ANSWERS[0][0], {"cups": 2, "cold": 1})))
        self.assertEqual(len([told for _, _, told in ANSWERS if told[0] == "NoRoom"]), 3)
        self.assertGreater(max(len(program[name]) for program, _ in PROGRAMS for name, _, _, _ in program.procedures), 30)

    def test_answers_of_before(self):
        for (program, limits), told in zip(PROGRAMS + PROGRAMS[::-1], ANSWERS + ANSWERS[::-1]):
            self.assertEqual(answer(program, limits), told[2], told[:2])

    def test_tables_hold(self):
        for program, limits in PROGRAMS:
            if answer(program, limits)[0] != "NoRoom":
                code, tables = compiled(program, **limits)
                check_sound(code)
                for (name, _, _, _), table in zip(program.procedures, tables):
                    self.assertTrue(locations_hold(program, code, name, table))

    def test_no_room_tells_the_first_procedure_without_room(self):
        for program, limits in PROGRAMS:
            for cups in (1, 2, 3, 16):
                for cold in (0, 1, 16):
                    told = [
                        ("NoRoom", name, fewest_cups(program, name) if fewest_cups(program, name) > cups else 0)
                        for name, _, _, _ in program.procedures
                        if fewest_cups(program, name) > cups or len(program[name].shelves) > cold
                    ]
                    found = answer(program, {"cups": cups, "cold": cold})
                    self.assertEqual(found if found[0] == "NoRoom" else None, told[0] if told else None)


class TimeTest(unittest.TestCase):
    # In terms of some fixed work; what is asked is 0.72 and 3.1, before it took 1.4 and 6.2.
    def test_the_first_program(self):
        self.assertLess(time_of(PROGRAMS[:1] * 5), 0.85)

    def test_different_programs_in_turn(self):
        self.assertLess(time_of(PROGRAMS), 3.7)


if __name__ == "__main__":
    unittest.main()
