"""What holds over the whole program: starts and their errors, least lives, and other words for the same things."""

import itertools
import random
import unittest

from drawing import draw_sound, shaken
from parting import cut, declared
from samples import DAIRY, FULL
from second import Shape

from sourwright.code import CodeProgram
from sourwright.compiling import compiled, fewest_cups
from sourwright.errors import InvalidProgram, InvalidStart, TooLong, Unfilled, UnknownName
from sourwright.flow import check_sound, written_out
from sourwright.forms import is_word
from sourwright.judging import is_fresh, judge
from sourwright.lives import exact_type
from sourwright.locations import locations_hold
from sourwright.mending import inserted, mends, rested
from sourwright.papers import paper_holds, paper_of
from sourwright.parts import Part, link
from sourwright.programs import Program
from sourwright.standing import callers, stand_in
from sourwright.texts import show_program
from sourwright.workshop import Workshop
from sourwright.world import World, check_start, run

# All functions that take a start of a program or of code.
STARTING = (
    check_start, is_fresh, judge,
    lambda program, name, lives: paper_holds(program, name, lives, ()),
    World,
    lambda program, name, lives: run(program, name, lives, ()),
)


def first_error(program, name, lives):
    """The values of the error that is due first for a start, or None."""
    names = [given[0] for given in program.procedures]
    if name not in names:
        return (name,)
    params = program[name].params
    kinds = params if isinstance(program, CodeProgram) else [kind for _, kind in params]
    if len(lives) != len(kinds):
        return ("count", len(kinds))
    for index, (kind, life) in enumerate(zip(kinds, lives)):
        if isinstance(life, bool) or not isinstance(life, int) or not -1 <= life <= dict(program.kinds)[kind]:
            return ("life", index)
    return None


def raised(call, *given):
    try:
        call(*given)
    except UnknownName as error:
        return (error.name,)
    except InvalidStart as error:
        return (error.word, error.index)
    except TooLong:
        return None
    return None


def draw_lives(chance, program, name):
    return tuple(chance.randrange(-1, program.keep_of(kind) + 1) for _, kind in program[name].params)


class StartsTest(unittest.TestCase):
    def test_errors_of_all_functions(self):
        chance = random.Random(61)
        odd = (-2, -3, 61, 999, True, False, None, "3", (), (1,))
        seen = set()
        for program in [DAIRY, FULL] + [draw_sound(chance, size=6) for _ in range(12)]:
            code, _ = compiled(program, cups=16, cold=16)
            for name in [given[0] for given in program.procedures] + ["nope", "", "milk", None]:
                for _ in range(6):
                    lives = list(draw_lives(chance, program, name)) if name in program else [0]
                    for _ in range(chance.choice((0, 1, 1, 2))):
                        if lives:
                            lives[chance.randrange(len(lives))] = chance.choice(odd)
                    if chance.random() < 0.2:
                        lives = lives[1:] if chance.random() < 0.5 else lives + [0]
                    lives = chance.choice((list, tuple))(lives)
                    expected = first_error(program, name, lives)
                    seen.add(expected and expected[0])
                    for book in (program, code):
                        for call in STARTING:
                            self.assertEqual(raised(call, book, name, lives), expected)
        self.assertLessEqual({None, "count", "life", "nope"}, seen)

    def test_true_if_all_is_right(self):
        for lives in ((-1, 8), [0, 0]):
            for book in (DAIRY, compiled(DAIRY)[0]):
                self.assertIs(check_start(book, "blend", lives), True)


class LeastLivesTest(unittest.TestCase):
    def check(self, book, name, keeps):
        """For each parameter one least life, or no start is fresh; what sours does so no later with less life."""
        starts = list(itertools.product(*[range(-1, keep + 1) for keep in keeps]))
        verdicts = {lives: is_fresh(book, name, lives) for lives in starts}
        if not any(verdicts.values()):
            return "never"
        needs = [min(lives[at] for lives in starts if verdicts[lives]) for at in range(len(keeps))]
        for lives in starts:
            self.assertEqual(verdicts[lives], all(life >= need for life, need in zip(lives, needs)))
        self.assertEqual(exact_type(book, name).needs, tuple(needs))
        return "some"

    def test_drawn_programs(self):
        chance = random.Random(62)
        words = []
        for _ in range(60):
            program = draw_sound(chance, size=8, most=5)
            code, _ = compiled(program, cups=16, cold=16)
            for name, params, _, _ in program.procedures:
                keeps = [program.keep_of(kind) for _, kind in params]
                words.append(self.check(program, name, keeps))
                self.assertEqual(self.check(code, name, keeps), words[-1])
        self.assertGreater(words.count("never"), 20)
        self.assertGreater(words.count("some"), 60)

    def test_sour_starts_with_less_and_with_more_life(self):
        chance = random.Random(63)
        tried = 0
        for _ in range(400):
            program = draw_sound(chance, size=7, most=8)
            name = program.procedures[-1][0]
            lives = draw_lives(chance, program, name)
            if not lives or written_out(program, name) > 60 or is_fresh(program, name, lives):
                continue
            at = chance.randrange(len(lives))
            for book in (program, compiled(program, cups=16, cold=16)[0]):
                if written_out(book, name) > 80:
                    continue
                told = judge(book, name, lives)
                if lives[at] >= 0:
                    less = judge(book, name, lives[:at] + (lives[at] - 1,) + lives[at + 1:])
                    self.assertEqual(less[0], "sour")
                    self.assertLessEqual(less[2], told[2])
                if lives[at] < program.keep_of(program[name].params[at][1]):
                    more = judge(book, name, lives[:at] + (lives[at] + 1,) + lives[at + 1:])
                    self.assertTrue(more[0] == "fresh" or more[2] >= told[2])
                tried += 1
        self.assertGreater(tried, 80)


class OtherWords(unittest.TestCase):
    """Other words for kinds, wells, dishes, procedures, names and shelves change nothing but the words."""

    def other(self, chance, program):
        """The program in other words, and how procedures and names are called there."""
        words = [a + b for a in "xyzabc" for b in "qwertz"]

        def table(names):
            return dict(zip(names, chance.sample(words, len(names))))

        kinds = table([name for name, _ in program.kinds])
        wells = table([well[0] for well in program.wells])
        dishes = table([dish[0] for dish in program.dishes])
        procedures = table([given[0] for given in program.procedures])
        names = {name: table(program[name].names + program[name].shelves) for name in procedures}
        made = Program(
            tuple((kinds[name], keep) for name, keep in program.kinds),
            tuple((wells[name], kinds[kind], ticks) for name, kind, ticks in program.wells),
            tuple((dishes[name], kinds[needs], kinds[makes], ticks) for name, needs, makes, ticks in program.dishes),
            tuple(
                (procedures[name], tuple((names[name][param], kinds[kind]) for param, kind in params),
                 tuple(names[name][result] for result in results), self.body(body, names[name], wells, dishes, procedures))
                for name, params, results, body in program.procedures
            ),
        )
        return made, procedures, names, wells

    def body(self, body, names, wells, dishes, procedures):
        found = []
        for step in body:
            word = step[0]
            if word in ("if", "while"):
                step = (word,) + tuple(self.body(inner, names, wells, dishes, procedures) for inner in step[1:])
            elif word == "call":
                step = (word, procedures[step[1]], tuple(names[one] for one in step[2]), tuple(names[one] for one in step[3]))
            elif word != "wait":
                step = list(step)
                if word == "get":
                    step[2] = wells[step[2]]
                if word == "dish":
                    step[2] = dishes[step[2]]
                for at in {"get": (1,), "mix": (1, 3, 4), "dish": (1, 3)}.get(word, (1, 2)):
                    step[at] = names[step[at]]
            found.append(tuple(step))
        return tuple(found)

    def test_drawn_programs(self):
        chance = random.Random(64)
        for _ in range(60):
            program = draw_sound(chance, size=9)
            made, procedures, names, wells = self.other(chance, program)
            for name, *_ in program.procedures:
                self.check(chance, program, made, name, procedures, names, wells)

    def check(self, chance, program, made, name, procedures, names, wells):
        other = procedures[name]
        lives = draw_lives(chance, program, name)
        self.assertEqual(exact_type(made, other), exact_type(program, name))
        self.assertEqual(fewest_cups(made, other), fewest_cups(program, name))
        self.assertEqual(written_out(made, other), written_out(program, name))
        self.assertEqual(is_fresh(made, other, lives), is_fresh(program, name, lives))
        self.assertEqual(paper_of(made, other) is None, paper_of(program, name) is None)
        if written_out(program, name) <= 80:
            told, again = judge(program, name, lives), judge(made, other, lives)
            self.assertEqual((told[0], told[2:]), (again[0], again[2:]))
        self.assertEqual(
            sorted((place, names[name][x], wells[well]) for place, x, well in mends(program, name, lives)),
            sorted(mends(made, other, lives)),
        )
        answers = tuple(chance.random() < 0.5 for _ in range(6))
        worths = tuple(range(5, 5 + len(lives)))
        world, second = World(program, name, lives, worths=worths), World(made, other, lives, worths=worths)
        for event, twin in zip(list(world.events(answers)), list(second.events(answers))):
            renamed = list(event)
            if len(event) > 2:
                renamed[2] = procedures[event[2]]
            if event[0] == "sour":
                renamed[4] = names[event[2]][event[4]]
            self.assertEqual(tuple(renamed), twin)
        here = names[world.where()[-1][0]]
        self.assertEqual({here[one]: pair for one, pair in world.filled().items()}, second.filled())
        self.assertEqual({here[one]: pair for one, pair in world.resting().items()}, second.resting())
        self.assertEqual(world.outcome(), second.outcome())


class PassedOnTest(unittest.TestCase):
    """What functions return is passed on to the others."""

    def check(self, chance, program):
        """Reads, makes, judges, links and compiles a program that a function returned."""
        self.assertIs(check_sound(program), True)
        self.assertEqual(Program.read(show_program(program)), program)
        self.assertEqual(Program(*declared(program), program.procedures), program)
        for names in ([name for name, _ in program.kinds], [given[0] for given in program.procedures]):
            self.assertEqual(len(set(names)), len(names))
            self.assertTrue(all(is_word(name) for name in names))
        code, tables = compiled(program, cups=16, cold=16)
        for (name, params, _, _), told in zip(program.procedures, tables):
            lives = draw_lives(chance, program, name)
            self.assertIs(locations_hold(program, code, name, told), True)
            self.assertEqual(exact_type(code, name), exact_type(program, name))
            verdict = judge(program, name, lives) if is_fresh(program, name, lives) or written_out(program, name) <= 80 else None
            if verdict and verdict[0] == "fresh":
                self.assertTrue(paper_holds(program, name, lives, verdict[1]))
            elif verdict:
                self.assertEqual(run(program, name, lives, verdict[1])[0][:2], ("sour", verdict[2]))
        part = Part.read("part a\n" + show_program(program))
        self.assertEqual(link((part,)), program)
        parts = cut(chance, program, loosen=False)
        self.assertEqual(link(parts), program)
        shop = Workshop()
        for one in parts:
            shop.put(one.name, str(one))
        self.assertEqual(shop.build(), program)

    def test_callers(self):
        chance = random.Random(65)
        made = 0
        for _ in range(25):
            program = draw_sound(chance, size=6, most=8)
            for name, *_ in program.procedures:
                for _, other, caller, lives in callers(program, name):
                    self.check(chance, other)
                    self.assertFalse(is_fresh(other, caller, lives))
                    made += 1
                    # Callers of callers.
                    for _, again, outer, lives in callers(other, caller)[:1]:
                        self.check(chance, again)
        self.assertGreater(made, 40)

    def test_stand_in(self):
        chance = random.Random(66)
        made = 0
        for _ in range(120):
            program = draw_sound(chance, size=5, most=8)
            name = chance.choice(program.procedures)[0]
            other = shaken(chance, [given for given in program.procedures if given[0] == name][0])
            try:
                program = program.with_procedure(("other",) + other[1:])
                check_sound(program)
                told = stand_in(program, "other", name)
            except (InvalidProgram, InvalidStart, Unfilled):
                continue
            if told is not None:
                self.check(chance, told[0])
                made += 1
        self.assertGreater(made, 15)

    def test_steps_put_in(self):
        chance = random.Random(67)
        made = 0
        for _ in range(40):
            program = draw_sound(chance, size=6)
            name = chance.choice(program.procedures)[0]
            for place, x, well in list(mends(program, name, draw_lives(chance, program, name)))[:3]:
                self.check(chance, inserted(program, name, place, ("get", x, well)))
                made += 1
            body = Shape(program, name).steps
            for place, step in enumerate(body):
                if step[0] == "get" and place + 2 < len(body) and len(program[name].body) == len(body):
                    try:
                        self.check(chance, rested(program, name, place + 1, place + 2, step[1]))
                        made += 1
                    except Unfilled:
                        pass
        self.assertGreater(made, 40)


class OneTextTest(unittest.TestCase):
    def test_as_a_program_and_as_a_part(self):
        # Linked, and compiled with just as many cups and cold places as are needed: the same types and starts.
        chance = random.Random(68)
        for _ in range(60):
            text = show_program(draw_sound(chance, size=9, most=10))
            program, part = Program.read(text), Part.read("part one\n" + text)
            whole = link((part,))
            self.assertEqual(whole, program)
            cups = max([fewest_cups(program, name) for name, *_ in program.procedures] + [1])
            cold = max(len(program[name].shelves) for name, *_ in program.procedures)
            code, tables = compiled(whole, cups=cups, cold=cold)
            for (name, params, _, _), told in zip(program.procedures, tables):
                plain = exact_type(program, name).plain()
                self.assertEqual(part.types()[name], plain)
                self.assertEqual(exact_type(code, name).plain(), plain)
                self.assertIs(locations_hold(program, code, name, told), True)
                for _ in range(4):
                    lives = draw_lives(chance, program, name)
                    self.assertEqual(is_fresh(program, name, lives), is_fresh(code, name, lives))
                    answers = tuple(chance.random() < 0.5 for _ in range(8))
                    worths = tuple(range(4, 4 + len(lives)))
                    event, outcome = run(program, name, lives, answers, worths=worths)
                    other, again = run(code, name, lives, answers, worths=worths)
                    self.assertEqual((event[:2], outcome), (other[:2], again))


if __name__ == "__main__":
    unittest.main()
