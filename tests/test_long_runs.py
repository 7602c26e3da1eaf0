"""Runs of code, and long runs of text and code (points [15], [16], [37])."""

import unittest

from drawing import code_of
from samples import DISHES, KINDS, WELLS
from timing import ratio

from sourwright.code import CodeProgram
from sourwright.programs import Program
from sourwright.world import World, run

BODY = (
    ("get", "a", "cow"), ("get", "b", "cow"),
    ("while", (
        ("mix", "c", "+", "a", "b"), ("scale", "a", "c", -9), ("put", "s", "a"), ("take", "a", "s"),
        ("call", "fresh", ("a",), ("a",)), ("get", "b", "cow"), ("if", (("scale", "a", "a", 9),), ()),
    )),
)
FRESH = ("fresh", (("x", "milk"),), ("y",), (("dish", "z", "press", "x"), ("dish", "y", "turn", "z")))
PROGRAM = Program(KINDS, WELLS, DISHES + (("turn", "curd", "milk", 1),), (FRESH, ("p", (), ("a", "b"), BODY)))


class CodeTest(unittest.TestCase):
    ROWS = (
        ("ask", 4), ("get", 0, "cow", 7), ("get", 1, "cow", 3), ("jump", 5), ("get", 0, "cow", 7), ("put", 3, 0),
        ("get", 15, "cow", 7), ("take", 2, 3), ("end", (2, 15, 2)),
    )
    CODE = CodeProgram(KINDS, WELLS, DISHES, (
        ("p", ("milk",), ROWS), ("q", ("milk",), (("call", "p", (0,), (1, 2, 3)), ("get", 0, "cow", 7), ("end", (1, 0)))),
    ))

    def test_events_and_carriers(self):
        world = World(self.CODE, "p", (8,), worths=(5,))
        self.assertEqual(world.filled(), {"c0": (5, 8)})
        self.assertEqual(world.step(), ("asks", 0, "p", 0))
        self.assertEqual(world.step(True), ("asked", 0, "p", 0, True))
        self.assertEqual((world.step(), world.step()), (("did", 1, "p", 1), ("did", 3, "p", 2)))
        self.assertEqual(world.filled(), {"c0": (1, 6), "c1": (1, 8)})
        self.assertEqual((world.step(), world.tick, world.where()), (("did", 5, "p", 3), 5, (("p", 5),)))
        self.assertEqual((world.step(), world.filled(), world.resting()), (("did", 5, "p", 5), {"c1": (1, 7)}, {"p3": (1, 6)}))
        self.assertEqual((world.step(), world.step()), (("did", 6, "p", 6), ("did", 8, "p", 7)))
        self.assertIsNone(world.outcome())
        filled = {"c1": (1, 4), "c15": (1, 7), "c2": (1, 6)}
        self.assertEqual(world.filled(), filled)
        self.assertEqual((world.step(), world.tick, world.where()), (("did", 9, "p", 8), 9, (("p", 9),)))
        self.assertEqual((world.filled(), world.outcome()), (filled, ((1, 6), (1, 7), (1, 6))))
        self.assertEqual(world.step(), ("done", 9))
        self.assertEqual((world.undo(), world.where(), world.outcome()), (True, (("p", 8),), None))

    def test_supply_is_asked_with_the_place_of_the_row(self):
        for answer, expected in ((True, [7, 3, 7]), (False, [7, 7])):
            asked = []

            def supply(*given):
                asked.append(given)
                return 1

            run(self.CODE, "q", (8,), (answer,), supply=supply)
            times = {}
            self.assertEqual([place for name, place, _ in asked if name == "p"], expected)
            for name, place, count in asked:
                self.assertEqual(count, times.get((name, place), 0))
                times[name, place] = count + 1
            self.assertEqual(asked[-1], ("q", 7, 0))

    def test_sour(self):
        code = CodeProgram(KINDS, (), (), (("p", ("milk", "milk"), (("mix", 3, "+", 1, 0), ("end", ()))),))
        self.assertEqual(run(code, "p", (-1, -1), ()), (("sour", 0, "p", 0, "c1"), None))
        self.assertEqual(run(code, "p", (-1, 0), ()), (("sour", 0, "p", 0, "c0"), None))

    def test_calls(self):
        told = [event for event in World(self.CODE, "q", (8,)).events((True,))]
        self.assertEqual(told[0], ("called", 0, "q", 0))
        self.assertEqual(told[-4:], [("returned", 10, "q", 0), ("did", 10, "q", 1), ("did", 12, "q", 2), ("done", 12)])


class LongRunTest(unittest.TestCase):
    def test_text_and_code(self):
        answers = [answer for at in range(180) for answer in (True, at % 3 > 0)] + [False]
        outcomes = []
        for program in (PROGRAM, code_of(PROGRAM)):
            world = World(program, "p", (), supply=lambda name, place, times: 10 ** 28 + times)
            stood = []
            told = []
            for event in world.events(answers):
                told.append(event)
                stood.append((world.tick, world.where()))
            self.assertGreater(len(told), 1900)
            self.assertEqual(told[-1][0], "done")
            self.assertEqual(len([event for event in told if event[0] == "asked"]), len(answers))
            self.assertGreater(world.outcome()[0][0].bit_length(), 900)
            outcomes.append((told[-1], world.outcome()))
            self.assertEqual(outcomes[-1], run(program, "p", (), answers, supply=lambda name, place, times: 10 ** 28 + times))
            for at in range(len(stood) - 2, 0, -1):
                self.assertIs(world.undo(), True)
                self.assertEqual((world.tick, world.where()), stood[at - 1])
            self.assertIs(world.undo(), True)
            self.assertIs(world.undo(), False)
            self.assertEqual((world.tick, world.filled(), world.resting()), (0, {}, {}))
        self.assertEqual(outcomes[0], outcomes[1])

    def test_very_long_worths(self):
        body = (("while", (("scale", "a", "a", 9), ("copy", "b", "a"), ("get", "c", "cow"))),)
        program = Program((("milk", 60),), WELLS, (), (("p", (("a", "milk"),), ("a",), body),))
        world = World(program, "p", (60,), worths=(10 ** 29,))
        last = list(world.events((True,) * 12 + (False,)))[-1]
        self.assertEqual((last, world.outcome()), (("done", 61), ((10 ** 29 * 9 ** 12, -1),)))


class TimeTest(unittest.TestCase):
    """The longest input found takes no several times as long as it did when this was written, on any machine.

    It took 1.0 to 1.5 times as long as the reference then, and 4.1 to 5.7 times before World was made faster.
    """

    PROGRAM = Program((("k", 15),), (("w", "k", 1),), (), (("p", (), ("y",), (("get", "y", "w"), ("while", (
        ("get", "x", "w"), ("wait", 4), ("wait", 1), ("wait", 1), ("wait", 1), ("wait", 1), ("scale", "y", "x", 2))))),))
    ROWS = (
        ("get", 0, "w", 0), ("ask", 10), ("get", 1, "w", 2), ("wait", 4), ("wait", 1), ("wait", 1), ("wait", 1), ("wait", 1),
        ("scale", 0, 1, 2), ("jump", 1), ("end", (0,)),
    )
    CODE = CodeProgram(PROGRAM.kinds, PROGRAM.wells, (), (("p", (), ROWS),))
    ANSWERS = (True,) * 399 + (False,)
    MOST = 3

    def supply(self, procedure, place, times):
        return times

    def events_and_back(self, program):
        world = World(program, "p", (), supply=self.supply)
        told = list(world.events(self.ANSWERS))
        while world.undo():
            pass
        return told

    def step_by_step(self, program):
        world = World(program, "p", (), supply=self.supply)
        for answer in self.ANSWERS:
            while world.step()[0] != "asks":
                pass
            world.step(answer)

    def test_what_it_gives(self):
        for program, more in ((self.PROGRAM, 0), (self.CODE, 399 + 1)):
            # Each round takes 1 + 1 + 8 + 1 ticks, and the last value was made 9 ticks before the last asking.
            expected = (("done", 1 + 399 * 11 + 1), ((2 * 398, 15 - 8 - 1 - 1),))
            self.assertEqual(run(program, "p", (), self.ANSWERS, supply=self.supply), expected)
            told = self.events_and_back(program)
            self.assertEqual((len(told), told[-1]), (1 + 399 * 8 + 1 + 1 + more, expected[0]))

    def test_run(self):
        for program in (self.PROGRAM, self.CODE):
            self.assertLess(ratio(lambda: run(program, "p", (), self.ANSWERS, supply=self.supply)), self.MOST)

    def test_events_and_undo(self):
        for program in (self.PROGRAM, self.CODE):
            self.assertLess(ratio(lambda: self.events_and_back(program)), self.MOST)

    def test_steps(self):
        for program in (self.PROGRAM, self.CODE):
            self.assertLess(ratio(lambda: self.step_by_step(program)), self.MOST)


if __name__ == "__main__":
    unittest.main()
