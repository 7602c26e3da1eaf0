"""Runs of text: starts, events, what is filled, undo, generators of events (points [14] to [17])."""

import random
import unittest
import zlib

from drawing import code_of, draw_sound
from samples import DAIRY, DISHES, FULL, KINDS, WELLS
from second import Runner, Shape

from sourwright.errors import InvalidStart, UnknownName
from sourwright.programs import Program
from sourwright.world import World, check_start, run


def program_of(*procedures):
    return Program(KINDS, WELLS, DISHES, procedures)


def start_fault(ask, *args, **more):
    try:
        ask(*args, **more)
    except InvalidStart as error:
        return (error.word, error.index)
    except UnknownName as error:
        return error.name
    return None


def supply_by_name(procedure, place, times):
    """A worth that depends on all that the supply is asked with."""
    return zlib.crc32(f"{procedure} {place} {times}".encode()) % 2001 - 1000


class StartTest(unittest.TestCase):
    CALLS = (check_start, World, lambda program, name, lives: run(program, name, lives, ()))

    def test_right_starts(self):
        for lives in ((-1,), (0,), (8,), [3]):
            self.assertIs(check_start(DAIRY, "make", lives), True)
            self.assertIs(check_start(program=code_of(DAIRY), name="make", lives=lives), True)
        self.assertIs(check_start(DAIRY, "blend", (8, -1)), True)
        self.assertIs(check_start(FULL, "none", ()), True)
        sixty = Program((("a", 60), ("b", 0)), (), (), (("p", (("x", "a"), ("y", "b")), (), ()),))
        self.assertIs(check_start(sixty, "p", (60, 0)), True)
        self.assertEqual(start_fault(check_start, sixty, "p", (61, 1)), ("life", 0))
        self.assertEqual(start_fault(check_start, sixty, "p", (60, 1)), ("life", 1))

    def test_errors_in_order(self):
        for program in (DAIRY, code_of(DAIRY)):
            for call in self.CALLS:
                self.assertEqual(start_fault(call, program, "cow", (1, 2, 3)), "cow")
                self.assertEqual(start_fault(call, program, "make", ()), ("count", 1))
                self.assertEqual(start_fault(call, program, "make", (99, None)), ("count", 1))
                self.assertEqual(start_fault(call, program, "blend", [99]), ("count", 2))
                for life in (-2, 9, 10 ** 30, True, False, "3", "", None, (), (3,)):
                    self.assertEqual(start_fault(call, program, "make", (life,)), ("life", 0))
                    self.assertEqual(start_fault(call, program, "blend", (8, life)), ("life", 1))
                    self.assertEqual(start_fault(call, program, "blend", [life, life]), ("life", 0))

    def test_worths(self):
        self.assertEqual(start_fault(World, DAIRY, "make", (9,), worths=()), ("life", 0))
        self.assertEqual(start_fault(World, DAIRY, "make", (8,), worths=()), ("worth", 1))
        self.assertEqual(start_fault(World, DAIRY, "blend", (8, 8), worths=(1, 2, 3)), ("worth", 2))
        self.assertEqual(start_fault(run, DAIRY, "blend", (8, 8), (), worths=(1,)), ("worth", 2))
        self.assertIsNone(start_fault(World, DAIRY, "blend", (8, 8), worths=[5, 6]))

    def test_what_is_passed_stays_as_it_is(self):
        lives, worths, answers = [8, 8], [5, 6], [True]
        world = World(DAIRY, "blend", lives, worths=worths)
        lives[0] = worths[0] = 0
        self.assertEqual(world.filled(), {"a": (5, 8), "b": (6, 8)})
        run(DAIRY, "make", [8], answers)
        self.assertEqual((lives, worths, answers), ([0, 8], [0, 6], [True]))


class ExampleTest(unittest.TestCase):
    def test_example(self):
        self.assertEqual(run(DAIRY, "make", (4,), (False,)), (("done", 6), ((1, 20),)))

    def test_by_name(self):
        told = run(program=DAIRY, name="make", lives=(4,), answers=[True], worths=(3,), supply=lambda a, b, c: 7)
        self.assertEqual(told, (("done", 6), ((7, 20),)))

    def test_lives_at_a_read(self):
        self.assertEqual(run(DAIRY, "make", (3,), (False,))[0], ("done", 6))
        self.assertEqual(run(DAIRY, "make", (2,), (False,)), (("sour", 3, "make", 3, "x"), None))
        self.assertEqual(run(DAIRY, "make", (-1,), (True,)), (("done", 6), ((1, 20),)))
        self.assertEqual(run(DAIRY, "make", (2,), ()), (("asks", 0, "make", 0), None))
        self.assertEqual(run(DAIRY, "blend", (0, -1), ())[0], ("sour", 0, "blend", 0, "b"))
        self.assertEqual(run(DAIRY, "blend", (-1, -1), ())[0], ("sour", 0, "blend", 0, "a"))
        self.assertEqual(run(DAIRY, "blend", (0, 0), ()), (("done", 1), ((2, -1),)))

    def test_answers_that_are_left_do_not_matter(self):
        self.assertEqual(run(DAIRY, "make", (4,), (False, True, True)), (("done", 6), ((1, 20),)))


class StepTest(unittest.TestCase):
    PART = ("part", (("m", "milk"),), ("m",), (("put", "s", "m"), ("wait", 3), ("take", "n", "s"), ("copy", "m", "n")))
    WHOLE = ("whole", (("a", "milk"),), ("b", "a"), (
        ("get", "b", "cow"), ("call", "parts", ("b",), ("b",)), ("while", (("scale", "a", "a", -2),)), ("put", "h", "a"),
        ("wait", 60), ("take", "a", "h"),
    ))
    PROGRAM = Program(KINDS, WELLS, DISHES, (("parts",) + PART[1:], WHOLE))

    def test_all_events(self):
        world = World(self.PROGRAM, "whole", (8,), worths=(3,))
        told = (
            (None, ("did", 0, "whole", 0), 2), (True, ("called", 2, "whole", 1), 2), (None, ("did", 2, "parts", 0), 3),
            (False, ("did", 3, "parts", 1), 6), (None, ("did", 6, "parts", 2), 7), (None, ("did", 7, "parts", 3), 8),
            (None, ("returned", 9, "whole", 1), 9), (None, ("asks", 9, "whole", 2), 9), (None, ("asks", 9, "whole", 2), 9),
            (False, ("asked", 9, "whole", 2, False), 10), (None, ("sour", 10, "whole", 4, "a"), 10),
            (True, ("sour", 10, "whole", 4, "a"), 10),
        )
        for answer, event, tick in told:
            self.assertEqual(world.step(answer), event)
            self.assertEqual(world.tick, tick)

    def test_filled_resting_and_where(self):
        world = World(self.PROGRAM, "whole", (8,), worths=(3,))
        self.assertEqual((world.filled(), world.resting(), world.where()), ({"a": (3, 8)}, {}, (("whole", 0),)))
        world.step()
        self.assertEqual((world.filled(), world.where()), ({"a": (3, 6), "b": (1, 8)}, (("whole", 1),)))
        world.step()
        self.assertEqual((world.filled(), world.where()), ({"m": (1, 8)}, (("whole", 1), ("parts", 0))))
        world.step()
        self.assertEqual((world.filled(), world.resting()), ({}, {"s": (1, 8)}))
        world.step()
        self.assertEqual((world.filled(), world.resting()), ({}, {"s": (1, 8)}))
        world.step()
        self.assertEqual((world.filled(), world.resting()), ({"n": (1, 8)}, {}))
        world.step()
        self.assertEqual((world.filled(), world.where()), ({"m": (1, 7), "n": (1, 7)}, (("whole", 1), ("parts", 4))))
        self.assertIsNone(world.outcome())
        world.step()
        self.assertEqual((world.filled(), world.where()), ({"a": (3, -1), "b": (1, 6)}, (("whole", 2),)))

    def test_lives_far_below(self):
        body = (("wait", 60), ("wait", 60), ("put", "s", "y"), ("wait", 60), ("copy", "y", "x"))
        world = World(program_of(("p", (("x", "milk"),), ("x", "y"), (("get", "y", "cow"),) + body[:2] + body[4:])), "p", (-1,))
        last = list(world.events(()))[-1]
        self.assertEqual((last, world.outcome()), (("done", 123), ((1, -124), (1, -124))))

    def test_shelves_of_a_call_are_its_own(self):
        rest = ("rest", (("x", "milk"),), ("x",), (("put", "s", "x"), ("take", "x", "s")))
        body = (("put", "s", "x"), ("get", "y", "cow"), ("call", "rest", ("y",), ("y",)), ("take", "x", "s"))
        world = World(program_of(rest, ("p", (("x", "milk"),), ("x", "y"), body)), "p", (8,), worths=(7,))
        self.assertEqual(list(world.events(()))[-1], ("done", 7))
        self.assertEqual(world.outcome(), ((7, 8), (1, 6)))

    def test_dicts_are_new_each_time(self):
        world = World(self.PROGRAM, "whole", (8,))
        for ask in (world.filled, world.resting):
            ask()["x"] = (9, 9)
            self.assertNotIn("x", ask())
        for _ in range(3):
            world.step()
        for ask in (world.filled, world.resting):
            ask().clear()
        self.assertEqual(world.resting(), {"s": (1, 8)})

    def test_done_again(self):
        world = World(FULL, "none", ())
        self.assertEqual((world.outcome(), world.where()), ((), (("none", 0),)))
        for answer in (None, True, False):
            self.assertEqual(world.step(answer), ("done", 0))
        self.assertIs(world.undo(), False)
        world = World(FULL, "many", ())
        self.assertIsNone(world.outcome())
        world.step()
        self.assertEqual(world.outcome(), ((1, 8), (1, 8)))

    def test_sour_in_the_order_of_the_step(self):
        mixed = ("p", (("a", "milk"), ("b", "milk")), (), (("mix", "a", "+", "b", "a"),))
        self.assertEqual(World(program_of(mixed), "p", (-1, -1)).step(), ("sour", 0, "p", 0, "b"))
        self.assertEqual(World(program_of(mixed), "p", (-1, 0)).step(), ("sour", 0, "p", 0, "a"))
        for step in (("scale", "b", "a", 1), ("dish", "c", "press", "a"), ("put", "s", "a")):
            self.assertEqual(World(program_of(mixed[:3] + ((step,),)), "p", (-1, 0)).step()[0], "sour")
        for step in (("copy", "b", "a"), ("wait", 1), ("if", (), ()), ("get", "a", "cow")):
            self.assertNotEqual(World(program_of(mixed[:3] + ((step,),)), "p", (-1, 0)).step(True)[0], "sour")

    def test_a_call_reads_nothing(self):
        wait = ("w", (("x", "milk"),), ("x",), (("wait", 4),))
        body = (("call", "w", ("a",), ("b",)), ("copy", "a", "b"))
        self.assertEqual(run(program_of(wait, ("p", (("a", "milk"),), ("a", "b"), body)), "p", (-1,), ()),
                         (("done", 6), ((1, -7), (1, -7))))

    def test_worths(self):
        body = (("mix", "c", "-", "a", "b"), ("scale", "c", "c", -9), ("mix", "a", "+", "c", "c"), ("dish", "d", "press", "a"))
        program = program_of(("p", (("a", "milk"), ("b", "milk")), ("d", "c", "d"), body))
        big = 10 ** 29
        self.assertEqual(
            run(program, "p", (8, 7), (), worths=(big, -3)),
            (("done", 6), ((-18 * (big + 3), 20), (-9 * (big + 3), 1), (-18 * (big + 3), 20))),
        )

    def test_supply_counts_each_place_in_the_whole_run(self):
        asked = []

        def supply(*given):
            asked.append(given)
            return len(asked)

        twice = ("twice", (), ("x",), (("get", "x", "cow"), ("get", "x", "cow")))
        body = (("while", (("call", "twice", (), ("a",)), ("get", "b", "cow"))),)
        world = World(program_of(twice, ("p", (), (), body)), "p", (), supply=supply)
        list(world.events((True, True)))
        self.assertEqual(asked, [
            ("twice", 0, 0), ("twice", 1, 0), ("p", 2, 0), ("twice", 0, 1), ("twice", 1, 1), ("p", 2, 1),
        ])
        # What is taken back is carried out anew with the same number.
        while world.where() != (("p", 1), ("twice", 1)):
            world.undo()
        del asked[:]
        list(world.events(()))
        self.assertEqual(asked, [("twice", 1, 1), ("p", 2, 1)])

    def test_a_supply_that_fails_changes_nothing(self):
        def supply(procedure, place, times):
            raise ZeroDivisionError

        world = World(program_of(("p", (), (), (("wait", 1), ("get", "x", "cow")))), "p", (), supply=supply)
        world.step()
        for _ in range(2):
            with self.assertRaises(ZeroDivisionError):
                world.step()
            self.assertEqual((world.tick, world.where(), world.filled()), (1, (("p", 1),), {}))
        self.assertEqual((world.undo(), world.undo()), (True, False))


class EventsTest(unittest.TestCase):
    LOOP = program_of(("p", (), ("x",), (("get", "x", "cow"), ("while", (("get", "x", "cow"),)))))

    def test_carries_out_just_what_it_yields(self):
        world = World(self.LOOP, "p", ())
        events = world.events([True, False])
        self.assertEqual(world.tick, 0)
        self.assertEqual((next(events), world.tick), (("did", 0, "p", 0), 2))
        self.assertEqual((next(events), world.tick), (("asked", 2, "p", 1, True), 3))
        self.assertEqual(world.where(), (("p", 2),))
        self.assertEqual(list(events), [("did", 3, "p", 2), ("asked", 5, "p", 1, False), ("done", 6)])
        self.assertEqual(list(events), [])

    def test_ends_with_asks(self):
        for answers in ((), [], (True,), (True,) * 5):
            world = World(self.LOOP, "p", ())
            told = list(world.events(answers=answers))
            self.assertEqual([event for event in told if event[0] == "asked"][-1:], told[-3:-2] if answers else [])
            self.assertEqual(told[-1], ("asks", 2 + 3 * len(answers), "p", 1))
            self.assertEqual(world.tick, 2 + 3 * len(answers))
            self.assertEqual(list(world.events((False,))), [("asked", world.tick - 1, "p", 1, False), ("done", world.tick)])

    def test_answers_are_used_within_callees(self):
        ask = ("ask", (), (), (("if", (("wait", 5),), ()),))
        body = (("call", "ask", (), ()), ("if", (("wait", 7),), ()), ("call", "ask", (), ()))
        program = program_of(ask, ("p", (), (), body))
        self.assertEqual(run(program, "p", (), (False, True, True)), (("done", 17), ()))
        self.assertEqual(run(program, "p", (), [False, True]), (("asks", 10, "ask", 0), None))

    def test_between_called_and_returned(self):
        chance = random.Random(21)
        calls = 0
        for _ in range(200):
            program = draw_sound(chance, most=60)
            name = program.procedures[-1][0]
            lives = tuple(program.keep_of(kind) for _, kind in program[name].params)
            answers = tuple(chance.random() < 0.4 for _ in range(10))
            told = list(World(program, name, lives).events(answers))
            opened = []
            for event in told:
                if event[0] == "called":
                    self.assertEqual(event[2], opened[-1][0] if opened else name)
                    opened.append((Shape(program, event[2]).steps[event[3]][1], event))
                elif event[0] == "returned":
                    _, begin = opened.pop()
                    self.assertEqual(begin[2:], event[2:])
                    self.assertGreater(event[1], begin[1])
                    calls += 1
                elif event[0] != "done":
                    self.assertEqual(event[2], opened[-1][0] if opened else name)
        self.assertGreater(calls, 40)


class UndoTest(unittest.TestCase):
    def state(self, world):
        return (world.tick, world.where(), world.filled(), world.resting(), world.outcome())

    def test_one_by_one(self):
        chance = random.Random(22)
        for number in range(150):
            program = draw_sound(chance, most=chance.choice((12, 60)))
            program = code_of(program, chance) if number % 2 else program
            name = program.procedures[-1][0]
            lives = tuple(program.keep_of(kind) for kind in Shape(program, name).kinds)
            world = World(program, name, lives, supply=supply_by_name)
            self.assertIs(world.undo(), False)
            stood = [self.state(world)]
            told = []
            for event in world.events([chance.random() < 0.5 for _ in range(8)]):
                told.append(event)
                stood.append(self.state(world))
            # The last event changes nothing.
            self.assertEqual(stood.pop(), stood[-1])
            back = chance.randrange(len(stood))
            for before in stood[:-1][::-1][:back]:
                self.assertIs(world.undo(), True)
                self.assertEqual(self.state(world), before)
            answers = [event[4] for event in told[len(stood) - 1 - back:] if event[0] == "asked"]
            self.assertEqual(list(world.events(answers)), told[len(stood) - 1 - back:])
            for before in stood[:-1][::-1]:
                self.assertIs(world.undo(), True)
                self.assertEqual(self.state(world), before)
            self.assertIs(world.undo(), False)
            self.assertEqual(self.state(world), stood[0])

    def test_goes_by_the_answers_given_now(self):
        world = World(DAIRY, "make", (4,))
        self.assertEqual(world.step(True), ("asked", 0, "make", 0, True))
        self.assertEqual(world.step(), ("did", 1, "make", 1))
        self.assertEqual((world.undo(), world.undo()), (True, True))
        self.assertEqual(world.step(False), ("asked", 0, "make", 0, False))
        self.assertEqual(world.step(), ("did", 1, "make", 2))

    def test_what_changes_nothing_is_not_taken_back(self):
        world = World(DAIRY, "make", (4,))
        world.step(False)
        tick = world.tick
        world.step()
        for _ in range(3):
            world.step()
        self.assertEqual(world.step(), ("done", 6))
        self.assertEqual((world.undo(), world.tick), (True, 3))
        self.assertEqual((world.undo(), world.tick), (True, tick))


class SecondWayTest(unittest.TestCase):
    def test_drawn_runs(self):
        chance = random.Random(23)
        ends = {}
        for number in range(700):
            program = draw_sound(chance, most=chance.choice((12, 60)))
            program = code_of(program, chance) if number % 2 else program
            name = chance.choice(program.procedures)[0]
            keeps = [program.keep_of(kind) for kind in Shape(program, name).kinds]
            lives = tuple(chance.choice((keep, chance.randrange(-1, keep + 1))) for keep in keeps)
            worths = tuple(chance.randrange(-99, 100) for _ in keeps)
            answers = tuple(chance.random() < 0.5 for _ in range(chance.randrange(12)))
            world = World(program, name, lives, worths=worths, supply=supply_by_name)
            told = [(event, world.tick) for event in world.events(answers)]
            second = Runner(program, name, lives, answers, worths, supply_by_name)
            self.assertEqual(told, second.told)
            self.assertEqual(world.outcome(), second.outcome)
            self.assertEqual(run(program, name, lives, answers, worths=worths, supply=supply_by_name),
                             (told[-1][0], second.outcome))
            ends[told[-1][0][0]] = ends.get(told[-1][0][0], 0) + 1
        self.assertGreater(min(ends.get(word, 0) for word in ("done", "sour", "asks")), 20)


if __name__ == "__main__":
    unittest.main()
