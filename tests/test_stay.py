"""Stays at runs, and where runs stand however they came there (points [48], [16], [37])."""

import random
import unittest

from drawing import code_of, draw_sound
from samples import DAIRY, DISHES, KINDS, WELLS
from second import Shape, step_ticks

from sourwright.code import CodeProgram
from sourwright.compiling import compiled
from sourwright.errors import UnknownName
from sourwright.programs import Program
from sourwright.stay import Stay
from sourwright.world import World


class Second:
    """Carries out a run with the whole history of each value: the births of all that it came of, and its rests.

    A value is a tuple (chain, last); the chain is kept as the tuple that is told.
    """

    def __init__(self, program, name, lives):
        self.program = program
        self.keeps = dict(program.kinds)
        shape = Shape(program, name)
        held = {one: ((("param", at, life),), life) for at, (one, life) in enumerate(zip(shape.params, lives))}
        self.calls = [[shape, 0, held, {}]]
        self.tick = 0

    def copy_of(self):
        return (self.tick, [[shape, place, dict(held), dict(stored)] for shape, place, held, stored in self.calls])

    def follow(self, event):
        """Does what an event tells."""
        shape, place, held, stored = self.calls[-1]
        begin = self.tick
        if event[0] == "returned":
            self.calls.pop()
            caller = self.calls[-1]
            step = caller[0].steps[caller[1]]
            results = [held[one] for one in shape.results]
            caller[2].update(zip(step[3], results))
            caller[1] = caller[0].ahead[caller[1]][0][1]
            self.tick += 1
            return
        step = shape.steps[place]
        if event[0] == "called":
            callee = Shape(self.program, step[1])
            self.calls.append([callee, 0, {param: held[arg] for param, arg in zip(callee.params, step[2])}, {}])
            return
        self.tick += step_ticks(self.program, step)
        answer = event[4] if event[0] == "asked" else None
        self.calls[-1][1] = dict(shape.ahead[place])[answer]
        word = step[0]
        if word in ("get", "dish"):
            rows = self.program.wells if word == "get" else self.program.dishes
            keep = self.keeps[[row[-2] for row in rows if row[0] == step[2]][0]]
            held[step[1]] = ((("birth", shape.name, place, self.tick, keep),), self.tick + keep)
        elif word == "mix":
            one, other = held[step[3]], held[step[4]]
            held[step[1]] = other if other[1] < one[1] else one
        elif word in ("scale", "copy"):
            held[step[1]] = held[step[2]]
        elif word == "put":
            stored[step[1]] = (held.pop(step[2]), begin)
        elif word == "take":
            (chain, last), put_at = stored.pop(step[2])
            held[step[1]] = (chain + (("rest", put_at, self.tick),), last + self.tick - put_at)
        elif word == "end":
            for at, cup in enumerate(step[1]):
                held["r%d" % at] = held[cup]


def last_of(chain):
    first = chain[0]
    begun = first[2] if first[0] == "param" else first[3] + first[4]
    return begun + sum(end - begin for _, begin, end in chain[1:])


class Checks(unittest.TestCase):
    def check_stand(self, stay, second):
        """Holds all that a stay tells against the second way."""
        world = stay.world
        _, _, held, stored = second.calls[-1]
        self.assertEqual(world.tick, second.tick)
        names = {one for one in held if not (isinstance(second.program, CodeProgram) and one[0] == "r")}
        self.assertEqual(set(world.filled()), names)
        for name in names:
            chain, last = held[name]
            self.assertEqual(stay.chain(name), chain)
            self.assertIs(type(stay.chain(name)), tuple)
            self.assertEqual(stay.life(name), last - world.tick)
            self.assertEqual(world.filled()[name][1], stay.life(name))
            self.assertEqual(last_of(chain), last)
        for name in set(stored) | {"r0", "r1", "c15", "p0", "nope"}:
            if name not in names:
                self.check_unknown(stay, name)

    def check_unknown(self, stay, name):
        for call in (stay.life, stay.chain):
            with self.assertRaises(UnknownName) as caught:
                call(name)
            self.assertEqual(caught.exception.name, name)


class StayTest(Checks):
    def test_example(self):
        stay = Stay(World(DAIRY, "make", (4,)))
        self.assertEqual((stay.forward(False), stay.forward()), (("asked", 0, "make", 0, False), ("did", 1, "make", 2)))
        self.assertEqual((stay.life("x"), stay.chain("x"), stay.world.tick), (1, (("param", 0, 4),), 3))

    def test_the_world(self):
        world = World(DAIRY, "make", (4,))
        stay = Stay(world=world)
        self.assertIs(stay.world, world)
        self.assertEqual(stay.forward(answer=True), ("asked", 0, "make", 0, True))
        self.assertEqual((world.tick, world.where()), (1, (("make", 1),)))
        self.assertEqual((stay.life(name="x"), stay.chain(name="x")), (3, (("param", 0, 4),)))

    def test_what_changes_nothing(self):
        stay = Stay(World(DAIRY, "make", (2,)))
        for _ in range(2):
            self.assertEqual(stay.forward(), ("asks", 0, "make", 0))
        self.assertIs(stay.back(), False)
        stay.forward(False)
        stay.forward()
        for _ in range(2):
            self.assertEqual(stay.forward(True), ("sour", 3, "make", 3, "x"))
        self.assertEqual((stay.life("x"), stay.chain("x")), (-1, (("param", 0, 2),)))
        self.assertEqual([stay.back() for _ in range(4)], [True, True, False, False])
        self.assertEqual((stay.world.tick, stay.life("x")), (0, 2))

    def test_done(self):
        stay = Stay(World(DAIRY, "make", (8,)))
        stay.forward(True)
        stay.forward()
        stay.forward()
        self.assertEqual((stay.forward(), stay.forward(True)), (("done", 6), ("done", 6)))
        self.assertEqual(stay.chain("y"), (("birth", "make", 3, 6, 20),))
        self.assertEqual(stay.chain("x"), (("birth", "make", 1, 3, 8),))
        self.assertEqual((stay.life("y"), stay.life("x")), (20, 5))
        self.check_unknown(stay, "z")
        self.assertEqual([stay.back() for _ in range(4)], [True] * 3 + [False])
        self.check_unknown(stay, "y")

    def test_mixes(self):
        body = (("get", "c", "cow"), ("mix", "d", "+", "a", "b"), ("mix", "e", "-", "b", "a"), ("mix", "f", "+", "c", "a"), ("mix", "g", "+", "c", "c"))
        program = Program(KINDS, WELLS, DISHES, (("p", (("a", "milk"), ("b", "milk")), (), body),))
        for lives, first, second in (((3, 5), 0, 0), ((5, 3), 1, 1), ((4, 4), 0, 1)):
            stay = Stay(World(program, "p", lives))
            for _ in body[:3]:
                stay.forward()
            self.assertEqual(stay.chain("d"), (("param", first, lives[first]),))
            self.assertEqual(stay.chain("e"), (("param", second, lives[second]),))
        stay = Stay(World(program, "p", (8, 8)))
        for _ in body:
            stay.forward()
        self.assertEqual(stay.chain("f"), (("param", 0, 8),))
        self.assertEqual(stay.chain("g"), (("birth", "p", 0, 2, 8),))

    def test_rests(self):
        body = (("put", "s", "a"), ("wait", 5), ("take", "b", "s"), ("copy", "a", "b"), ("put", "s", "a"), ("put", "t", "b"), ("take", "b", "t"), ("take", "a", "s"))
        program = Program(KINDS, WELLS, DISHES, (("p", (("a", "milk"),), (), body),))
        stay = Stay(World(program, "p", (8,)))
        self.assertEqual(stay.forward(), ("did", 0, "p", 0))
        for name in ("a", "s", "b"):
            self.check_unknown(stay, name)
        stay.forward()
        stay.forward()
        self.assertEqual((stay.chain("b"), stay.life("b")), ((("param", 0, 8), ("rest", 0, 7)), 8))
        for _ in body[3:]:
            stay.forward()
        self.assertEqual(stay.chain("b"), (("param", 0, 8), ("rest", 0, 7), ("rest", 9, 11)))
        self.assertEqual(stay.chain("a"), (("param", 0, 8), ("rest", 0, 7), ("rest", 8, 12)))
        self.assertEqual((stay.life("b"), stay.life("a")), (5, 7))

    def test_through_calls(self):
        inner = ("inner", (("x", "milk"),), ("y", "x", "z"), (("put", "s", "x"), ("take", "y", "s"), ("get", "x", "cow"), ("dish", "z", "press", "x")))
        outer = ("outer", (("x", "milk"),), ("u", "v"), (("call", "inner", ("x",), ("u", "v", "w")), ("mix", "u", "+", "u", "x")))
        start = ("start", (("n", "milk"), ("m", "milk")), ("m", "n"), (("wait", 1), ("call", "outer", ("m",), ("m", "n")), ("scale", "n", "n", 2)))
        program = Program((("milk", 30), ("curd", 20)), WELLS, DISHES, (inner, outer, start))
        for book in (program, code_of(program)):
            second = Second(book, "start", (5, 30))
            stay = Stay(World(book, "start", (5, 30)))
            while True:
                self.check_stand(stay, second)
                event = stay.forward()
                self.assertNotEqual(event[0], "sour")
                if event[0] == "done":
                    break
                second.follow(event)
            name, other = ("m", "n") if book is program else ("c1", "c0")
            # The result is a mix of what rested with what did not.
            self.assertEqual(stay.chain(name), (("param", 1, 30),))
            self.assertEqual(stay.chain(other), (("birth", "inner", 2, 5, 30),))

    def test_code(self):
        rows = (("get", 3, "cow", 7), ("put", 2, 3), ("jump", 3), ("take", 1, 2), ("copy", 0, 1), ("end", (0, 1)))
        code = CodeProgram(KINDS, WELLS, DISHES, (("p", ("milk",), rows),))
        stay = Stay(World(code, "p", (8,)))
        self.assertEqual(stay.chain("c0"), (("param", 0, 8),))
        for _ in rows[:2]:
            stay.forward()
        for name in ("c3", "p2", "c2", "r0", "2"):
            self.check_unknown(stay, name)
        for _ in rows[2:]:
            stay.forward()
        self.assertEqual(stay.forward(), ("done", 5))
        for name in ("c0", "c1"):
            self.assertEqual(stay.chain(name), (("birth", "p", 0, 2, 8), ("rest", 2, 4)))
            self.assertEqual(stay.life(name), 7)
        for name in ("r0", "r1"):
            self.check_unknown(stay, name)

    def test_shelves_and_what_is_not_filled(self):
        stay = Stay(World(DAIRY, "blend", (3, 4)))
        for name in ("c", "", "blend", None, "milk"):
            self.check_unknown(stay, name)

    def test_a_supply_that_fails(self):
        def supply(procedure, place, times):
            if fails:
                raise RuntimeError
            return 5

        fails = True
        stay = Stay(World(DAIRY, "make", (4,), supply=supply))
        stay.forward(True)
        with self.assertRaises(RuntimeError):
            stay.forward()
        self.assertEqual((stay.world.tick, stay.chain("x"), stay.life("x")), (1, (("param", 0, 4),), 3))
        fails = False
        self.assertEqual(stay.forward(), ("did", 1, "make", 1))
        self.assertEqual(stay.world.filled(), {"x": (5, 8)})
        self.assertEqual([stay.back() for _ in range(3)], [True, True, False])

    def test_long_chains(self):
        body = (("while", (("put", "s", "a"), ("take", "a", "s"))),)
        program = Program((("milk", 60),), (), (), (("p", (("a", "milk"),), (), body),))
        for book in (program, code_of(program)):
            stay = Stay(World(book, "p", (60,)))
            carrier = "a" if book is program else "c0"
            while True:
                event = stay.forward(True)
                if event[0] == "sour":
                    break
            chain = stay.chain(carrier)
            self.assertEqual(len(chain), 1 + 60)
            self.assertEqual(chain[:3], (("param", 0, 60), ("rest", 1, 3), ("rest", 4, 6)))
            while stay.back():
                pass
            self.assertEqual(stay.chain(carrier), (("param", 0, 60),))


class DrawnTest(Checks):
    def test_drawn_runs_forward_and_back(self):
        chance = random.Random(91)
        rests = births = calls = 0
        for _ in range(60):
            program = draw_sound(chance, size=10, most=chance.choice((12, 40)))
            for book in (program, code_of(program, chance), compiled(program, cups=16, cold=16)[0]):
                name = book.procedures[-1][0]
                lives = self.lives(chance, program, name)
                second = Second(book, name, lives)
                stay = Stay(World(book, name, lives))
                past = []
                for _ in range(60):
                    self.check_stand(stay, second)
                    if past and chance.random() < 0.3:
                        self.assertIs(stay.back(), True)
                        second.tick, second.calls = past.pop()
                        continue
                    before = second.copy_of()
                    event = stay.forward(chance.random() < 0.6)
                    if event[0] in ("sour", "done"):
                        if not past:
                            break
                        stay.back()
                        second.tick, second.calls = past.pop()
                        continue
                    past.append(before)
                    second.follow(event)
                    calls += event[0] == "called"
                    for one in stay.world.filled():
                        rests += len(stay.chain(one)) > 1
                        births += stay.chain(one)[0][0] == "birth"
        self.assertGreater(min(rests, births, calls), 100)

    def lives(self, chance, program, name):
        return tuple(max(0, program.keep_of(kind) - chance.randrange(3)) for _, kind in program[name].params)

    def test_text_and_code_step_by_step(self):
        # Code with a cup for each name, whose rows other than jumps and ends are the steps of the text.
        chance = random.Random(92)
        for _ in range(60):
            program = draw_sound(chance, size=9, most=30)
            code = code_of(program)
            name = program.procedures[-1][0]
            lives = self.lives(chance, program, name)
            text, rows = Stay(World(program, name, lives)), Stay(World(code, name, lives))
            for _ in range(40):
                answer = chance.random() < 0.5
                event, other = text.forward(answer), rows.forward(answer)
                while other[0] == "did" and Shape(code, other[2]).steps[other[3]][0] in ("jump", "end"):
                    other = rows.forward(answer)
                self.assertEqual(event[:2], other[:2])
                if event[0] in ("sour", "done"):
                    break
                self.compare(text, rows, program, event)

    def compare(self, text, rows, program, event):
        one = program[text.world.where()[-1][0]]
        params = [param for param, _ in one.params]
        order = params + [name for name in one.names if name not in params]
        held = text.world.filled()
        self.assertEqual({f"c{order.index(name)}": pair for name, pair in held.items()}, rows.world.filled())
        for name in held:
            cup = f"c{order.index(name)}"
            self.assertEqual(text.life(name), rows.life(cup))
            mine, theirs = text.chain(name), rows.chain(cup)
            self.assertEqual(mine[1:], theirs[1:])
            if mine[0][0] == "birth":
                self.assertEqual(mine[0][:2] + mine[0][3:], theirs[0][:2] + theirs[0][3:])
            else:
                self.assertEqual(mine[0], theirs[0])


def stand(world):
    return (world.tick, world.where(), world.filled(), world.resting(), world.outcome())


class AnswersTest(unittest.TestCase):
    """Where a world and a stay stand behind n steps hangs on the answers alone."""

    def by_answers(self, book, name, lives, answers, many):
        """How a new world, and a new stay, stand behind so many steps with these answers."""
        world, stay = World(book, name, lives, supply=self.supply), Stay(World(book, name, lives, supply=self.supply))
        left = list(answers)
        for _ in range(many):
            event = world.step()
            if event[0] == "asks":
                world.step(left[0])
                stay.forward(left.pop(0))
            else:
                stay.forward()
        return stand(world), {one: (stay.life(one), stay.chain(one)) for one in stay.world.filled()}

    def supply(self, procedure, place, times):
        return len(procedure) * 100 + place * 10 + times

    def test_steps_taken_back_and_done_again(self):
        chance = random.Random(93)
        for _ in range(40):
            program = draw_sound(chance, size=8, most=30)
            for book in (program, compiled(program, cups=16, cold=16)[0]):
                name = book.procedures[-1][0]
                lives = tuple(program.keep_of(kind) for _, kind in program[name].params)
                world, stay = World(book, name, lives, supply=self.supply), Stay(World(book, name, lives, supply=self.supply))
                given = []
                for _ in range(50):
                    if given and chance.random() < 0.4:
                        self.assertEqual((world.undo(), stay.back()), (True, True))
                        given.pop()
                        continue
                    answer = chance.random() < 0.5
                    event = world.step(answer)
                    self.assertEqual(stay.forward(answer), event)
                    if event[0] in ("sour", "done"):
                        if not given:
                            break
                        world.undo()
                        stay.back()
                        given.pop()
                    else:
                        given.append(answer if event[0] == "asked" else None)
                answers = [answer for answer in given if answer is not None]
                expected, chains = self.by_answers(book, name, lives, answers, len(given))
                self.assertEqual(stand(world), expected)
                self.assertEqual(stand(stay.world), expected)
                self.assertEqual({one: (stay.life(one), stay.chain(one)) for one in stay.world.filled()}, chains)


if __name__ == "__main__":
    unittest.main()
