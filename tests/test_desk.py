"""The desk (points [50], [51])."""

import random
import re
import unittest

from drawing import draw_any, draw_sound, is_sound
from samples import DAIRY, FULL, TEXT_WORDS
from second import Runner
from test_reading import SHORT, WRONG_LINES

from sourwright.compiling import fewest_cups
from sourwright.desk import Desk
from sourwright.errors import InvalidCommand, InvalidProgram, InvalidStart, InvalidText, TooLong, Unfilled, UnknownName
from sourwright.flow import written_out
from sourwright.judging import is_fresh, judge
from sourwright.lives import exact_type
from sourwright.programs import Program
from sourwright.standing import stand_in
from sourwright.texts import show_program
from sourwright.world import run

SLOW = ("slow", (("x", "milk"),), ("y",), (("wait", 1), ("dish", "y", "press", "x")))
MORE = DAIRY.with_procedure(SLOW)


def command_of(program):
    return "program " + show_program(program).replace("\n", " ; ")


def desk_with(program):
    desk = Desk()
    desk.say(command_of(program))
    return desk


def error_of(desk, command):
    """The error that a command raises, as its class and values, or None."""
    try:
        desk.say(command)
    except InvalidCommand:
        return ("command",)
    except InvalidText as error:
        return ("text", error.line)
    except InvalidProgram as error:
        return ("program", error.word, error.procedure, error.place)
    except Unfilled as error:
        return ("unfilled", error.procedure, error.place, error.carrier, error.answers)
    except UnknownName as error:
        return ("unknown", error.name)
    except InvalidStart as error:
        return ("start", error.word, error.index)
    except TooLong as error:
        return ("long", error.steps)
    return None


class AnswersTest(unittest.TestCase):
    DESK = desk_with(MORE)

    def test_example(self):
        desk = Desk()
        told = desk.say("program kind milk 8 ; well cow milk 2 ; procedure p -> x ; get x cow ; end")
        self.assertEqual(told, "1 procedures")
        self.assertEqual((desk.say("run p -"), desk.say("fresh p"), desk.say("cups p")), ("done 2 1:8", "yes", "1"))
        self.assertEqual(desk.say(command="fresh p"), "yes")

    def test_program_and_show(self):
        desk = Desk()
        for program in (DAIRY, MORE, FULL, Program((("k", 0),), (), (), ())):
            self.assertEqual(desk.say(command_of(program)), f"{len(program)} procedures")
            self.assertEqual("program " + desk.say("show"), command_of(program))

    def test_semicolons(self):
        desk = Desk()
        self.assertEqual(desk.say("program kind m 1"), "0 procedures")
        self.assertEqual(desk.say("program kind m 1 ; kind n 2"), "0 procedures")
        self.assertEqual(desk.say("show"), "kind m 1 ; kind n 2")
        for text, line in (
            ("; kind m 1", 0), ("kind m 1 ;", 0), ("kind m 1; kind n 1", 0), ("kind m 1 ;kind n 1", 0), ("kind m 1;kind n 1", 0), (";", 0),
            ("; ;", 0), ("kind m 1 ; ; kind n 1", 1), ("kind m 1 ; ; ; kind n 1", 1), ("kind m 1 ;; kind n 1", 0), ("kind m 1 ; ;", 1),
            ("kind m 1 ; kind n 1 ;", 1), ("no", 0), ("kind m 1 ; well w m 1 ; no", 2), ("procedure p -> ; wait 1", 2),
        ):
            self.assertEqual(error_of(desk, "program " + text), ("text", line), text)
        self.assertEqual(desk.say("show"), "kind m 1 ; kind n 2")

    def test_life(self):
        self.assertEqual([self.DESK.say("life " + name) for name in ("make", "blend", "slow")],
                         ["3 -> 20:- 6", "0 0 -> -:1:1 1", "1 -> 20:- 4"])
        program = Program((("k", 9),), (("w", "k", 1),), (), (
            ("none", (), (), ()), ("stays", (("x", "k"),), ("x", "x"), (("wait", 9), ("wait", 60))),
            ("never", (("x", "k"),), ("x",), (("wait", 10), ("scale", "x", "x", 1))), ("makes", (), ("x",), (("get", "x", "w"),)),
            ("both", (("x", "k"),), ("x",), (("get", "y", "w"), ("mix", "x", "+", "x", "y"))),
        ))
        desk = desk_with(program)
        self.assertEqual([desk.say("life " + given[0]) for given in program.procedures],
                         ["-> 0", "-1 -> sour sour 60", "never", "-> 9 1", "1 -> -:2 2"])

    def test_run(self):
        self.assertEqual(self.DESK.say("run make y 2"), "done 6 1:20")
        self.assertEqual(self.DESK.say("run make n 3"), "done 6 1:20")
        self.assertEqual(self.DESK.say("run make n 2"), "sour 3 x")
        self.assertEqual(self.DESK.say("run make - 2"), "asks 0")
        self.assertEqual(self.DESK.say("run make nnynny 8"), "done 6 1:20")
        self.assertEqual(self.DESK.say("run blend - 8 -1"), "sour 0 b")
        self.assertEqual(self.DESK.say("run blend - 3 8"), "done 1 2:2")
        program = Program((("k", 9),), (), (), (("p", (("x", "k"),), ("x", "y", "x"), (("scale", "y", "x", -3), ("wait", 60))),))
        self.assertEqual(desk_with(program).say("run p - 5"), "done 61 1:-56 -3:-56 1:-56")
        program = Program((("k", 9),), (), (), (("p", (("x", "k"),), (), (("while", (("wait", 2),)),)),))
        self.assertEqual([desk_with(program).say(f"run p {word} -1") for word in ("-", "y", "yn", "yyny")], ["asks 0", "asks 3", "done 4", "done 7"])

    def test_fresh_and_judge(self):
        self.assertEqual([self.DESK.say(f"fresh make {life}") for life in (-1, 2, 3, 8)], ["no", "no", "yes", "yes"])
        self.assertEqual([self.DESK.say(f"judge make {life}") for life in (-1, 2, 3, 8)], ["sour 3", "sour 3", "fresh", "fresh"])
        self.assertEqual(self.DESK.say("fresh blend 0 0"), "yes")
        self.assertEqual(self.DESK.say("judge blend 0 -1"), "sour 0")

    def test_stand(self):
        self.assertEqual([self.DESK.say(f"stand {pair}") for pair in ("slow make", "make slow", "make make")], ["yes", "no", "yes"])

    def test_cups(self):
        self.assertEqual([self.DESK.say("cups " + name) for name in ("make", "blend", "slow")], ["1", "2", "1"])
        self.assertEqual(desk_with(FULL).say("cups none"), "0")

    def test_drawn_programs(self):
        chance = random.Random(101)
        words = {}
        for _ in range(80):
            program = draw_sound(chance, size=8)
            desk = desk_with(program)
            for name, params, _, _ in program.procedures:
                lives = tuple(chance.randrange(-1, program.keep_of(kind) + 1) for _, kind in params)
                told = "".join([" " + str(life) for life in lives])
                plain = exact_type(program, name).plain()
                expected = "never" if plain.is_never else " ".join(
                    [str(need) for need in plain.needs] + ["->"] + [self.row(row) for row in plain.rows] + [str(plain.took)])
                self.assertEqual(desk.say("life " + name), expected)
                self.assertEqual(desk.say(f"fresh {name}{told}"), "yes" if is_fresh(program, name, lives) else "no")
                self.assertEqual(desk.say("cups " + name), str(fewest_cups(program, name)))
                if written_out(program, name) <= 80:
                    verdict = judge(program, name, lives)
                    self.assertEqual(desk.say(f"judge {name}{told}"), " ".join(["fresh"] if verdict[0] == "fresh" else ["sour", str(verdict[2])]))
                for _ in range(3):
                    answers = tuple(chance.random() < 0.5 for _ in range(chance.randrange(8)))
                    letters = "".join("ny"[answer] for answer in answers) or "-"
                    runner = Runner(program, name, lives, answers, [1] * len(lives), lambda procedure, place, times: 1)
                    event = runner.told[-1][0]
                    parts = [event[0], str(event[1])] + ([event[4]] if event[0] == "sour" else [])
                    parts += [f"{worth}:{life}" for worth, life in runner.outcome or ()]
                    self.assertEqual(desk.say(f"run {name} {letters}{told}"), " ".join(parts))
                    words[event[0]] = words.get(event[0], 0) + 1
            for one in program.procedures:
                for other in program.procedures:
                    if self.fit(program, one[0], other[0]):
                        expected = "yes" if stand_in(program, one[0], other[0]) is None else "no"
                        self.assertEqual(desk.say(f"stand {one[0]} {other[0]}"), expected)
        self.assertGreater(min(words.values()), 20)

    def row(self, row):
        if row is None:
            return "sour"
        return ":".join("-" if term is None else str(term) for term in (row.left,) + row.lost)

    def fit(self, program, one, other):
        def kinds(name):
            made = program[name]
            return [kind for _, kind in made.params], [made.kind_of(result) for result in made.results]

        return kinds(one) == kinds(other)


class ErrorsTest(unittest.TestCase):
    FORMS = ("show", "life make", "fresh make 3", "fresh none", "run make y 3", "run make - -1", "judge make 3", "stand make slow", "cups make")
    WRONG = (
        "", " ", "shows", "Show", "show ", " show", "show show", "show 1", "life", "life make make", "life  make", "life make ", "life 1",
        "life if", "life Make", "life sevenly", "life make 3", "life -", "fresh", "fresh 3", "fresh make  3", "fresh make 3 ", "fresh make x",
        "fresh make 03", "fresh make 00", "fresh make -0", "fresh make +3", "fresh make --3", "fresh make 10000", "fresh make -10000",
        "fresh make 1.0", "fresh make -", "fresh make 3 y", "fresh make 1_0", "fresh use 3", "run", "run make", "run make 3", "run make yx 3",
        "run make Y 3", "run make y- 3", "run make -- 3", "run make y y", "run make y 3 -", "run make  3", "run y make 3", "run make yes 3",
        "run put y 3", "judge", "judge 3", "judge make y", "judge make 3 03", "judge end 3", "stand", "stand make", "stand make slow make",
        "stand make 3", "stand take slow", "stand make slow ", "cups", "cups make make", "cups 1", "cups while", "cups  make", "program",
        "program ", "program  kind m 1", "program kind  m 1", "program kind m 1 ", " program kind m 1", "Program kind m 1", "programs kind m 1",
        "kind m 1", "kind", "read kind m 1", "help", "show;", "show ; show", "life make ; show", "-", "1", "program kind m 1\n", "show\n",
        "\nshow", "life\nmake", "life make\n", "fresh make\n3", "program kind m 1\nkind n 1", "program\nkind m 1", "program kind m 1 ;\nkind n 1",
    )

    def test_forms(self):
        desk = desk_with(FULL.with_procedure(SLOW))
        for command in self.FORMS:
            self.assertIsNone(error_of(desk, command), command)
        for command in self.WRONG:
            self.assertEqual(error_of(desk, command), ("command",), command)
            self.assertEqual(error_of(Desk(), command), ("command",), command)

    def test_no_program(self):
        desk = Desk()
        for command in self.FORMS + ("life nope", "fresh nope 9999", "stand a b", "run a y 1"):
            self.assertEqual(error_of(desk, command), ("command",))
        self.assertEqual(error_of(desk, "program kind m 61"), ("program", "keep", -1, 0))
        self.assertEqual(error_of(desk, "show"), ("command",))
        self.assertEqual(desk.say("program kind m 60"), "0 procedures")
        self.assertEqual(desk.say("show"), "kind m 60")

    def test_words_of_forms_may_be_names(self):
        program = Program((("milk", 8),), (), (), tuple((name, (("x", "milk"),), (), ()) for name in ("y", "n", "show", "life", "fresh", "run")))
        desk = desk_with(program)
        for command in ("fresh y 3", "run y y 3", "run n - 3", "life show", "cups life", "stand fresh run", "judge run 3"):
            self.assertIsNone(error_of(desk, command), command)

    def test_errors_of_texts(self):
        desk = desk_with(DAIRY)
        for text, told in (
            ("kind m 61", ("program", "keep", -1, 0)), ("kind m 1 ; procedure p -> x ; end", ("program", "result", 0, -1)),
            ("kind m 1 ; procedure p -> ; wait 61 ; end", ("program", "step", 0, 0)), ("well w m 1", ("program", "kinds", -1, 0)),
            ("kind m 61 ; no", ("text", 1)), ("kind m 1 ; procedure p -> ; take x s ; end", ("program", "kind", 0, 0)),
            ("kind m 1 ; procedure p x:m -> x ; put s x ; end", ("unfilled", "p", 1, "x", ())),
            ("kind m 1 ; procedure p x:m -> ; if ; put s x ; else ; end ; scale x x 1 ; end", ("unfilled", "p", 2, "x", (True,))),
        ):
            self.assertEqual(error_of(desk, "program " + text), told)
            self.assertEqual("program " + desk.say("show"), command_of(DAIRY))

    def test_lines_of_texts(self):
        desk = desk_with(DAIRY)
        lines = SHORT.split("\n")
        for wrong in WRONG_LINES:
            told = ("command",) if "" in wrong.split(" ") else ("text", 5)
            self.assertEqual(error_of(desk, "program " + " ; ".join(lines[:5] + [wrong] + lines[5:])), told)

    def test_errors_of_functions(self):
        desk = desk_with(FULL.with_procedure(SLOW))
        for command, told in (
            ("life nope", ("unknown", "nope")), ("cups nope", ("unknown", "nope")), ("fresh nope 99", ("unknown", "nope")),
            ("run nope y 99", ("unknown", "nope")), ("judge nope", ("unknown", "nope")), ("stand nope none", ("unknown", "nope")),
            ("stand make nope", ("unknown", "nope")), ("stand nope nil", ("unknown", "nope")), ("stand make blend", ("start", "fit", 0)),
            ("stand none make", ("start", "fit", 0)), ("fresh make", ("start", "count", 1)), ("fresh make 3 3", ("start", "count", 1)),
            ("fresh make 9", ("start", "life", 0)), ("fresh blend 3 -2", ("start", "life", 1)), ("judge make 9999", ("start", "life", 0)),
            ("run make y", ("start", "count", 1)), ("run make y -9999", ("start", "life", 0)), ("run none y 0", ("start", "count", 0)),
        ):
            self.assertEqual(error_of(desk, command), told, command)
        long = Program((("k", 9),), (), (), (("p", (("x", "k"),), (), (("wait", 1),) * 80 + (("scale", "x", "x", 1),)),))
        desk = desk_with(long)
        self.assertEqual(error_of(desk, "judge p 3"), ("long", 81))
        self.assertEqual(desk.say("fresh p 3"), "no")

    def test_nothing_changes_behind_an_error(self):
        chance = random.Random(102)
        desk = desk_with(DAIRY)
        for _ in range(150):
            program = draw_any(chance, size=6)
            before = desk.say("show")
            if is_sound(program):
                self.assertEqual(desk.say(command_of(program)), "3 procedures")
                self.assertEqual("program " + desk.say("show"), command_of(program))
            else:
                self.assertEqual(error_of(desk, command_of(program))[0], "unfilled")
                self.assertEqual(desk.say("show"), before)

    def test_changed_commands(self):
        # Words left out, doubled, exchanged and otherwise; by patterns it is told which commands are of the forms.
        chance = random.Random(103)
        name = r"(?!(?:if|else|end|while|get|mix|scale|dish|copy|wait|put|take|call|kind|well|part|use)(?![a-z]))[a-z]{1,6}"
        number = r"(?:0|-?[1-9][0-9]{0,3})"
        pattern = re.compile(
            rf"show|(?:life|cups) {name}|(?:fresh|judge) {name}(?: {number})*|run {name} (?:-|[yn]+)(?: {number})*|stand {name} {name}|"
            r"program(?: [^ \n]+)+")
        desk = desk_with(FULL)
        counts = {True: 0, False: 0}
        for _ in range(4000):
            words = chance.choice(self.FORMS).split(" ")
            for _ in range(chance.choice((1, 1, 2))):
                at = chance.randrange(len(words))
                more = chance.choice(TEXT_WORDS)
                way = chance.randrange(4)
                if way == 0:
                    words.insert(at, more)
                elif way == 1:
                    words[at] = more
                elif way == 2 and len(words) > 1:
                    words.pop(at)
                else:
                    other = chance.randrange(len(words))
                    words[at], words[other] = words[other], words[at]
            command = " ".join(words)
            is_right = pattern.fullmatch(command) is not None
            counts[is_right] += 1
            self.assertEqual(error_of(desk, command) != ("command",), is_right, command)
        self.assertGreater(min(counts.values()), 800)


class ByTheDeskAlone(unittest.TestCase):
    """What the answers say of each other."""

    def test_drawn_programs(self):
        chance = random.Random(104)
        fresh = sour = 0
        for _ in range(150):
            program = draw_sound(chance, size=8, most=12)
            desk = desk_with(program)
            for name, params, results, _ in program.procedures:
                lives = [chance.randrange(-1, program.keep_of(kind) + 1) for _, kind in params]
                told = "".join([" " + str(life) for life in lives])
                words = desk.say("life " + name).split(" ")
                if words == ["never"]:
                    self.assertEqual(desk.say(f"fresh {name}{told}"), "no")
                    continue
                arrow = words.index("->")
                needs, rows, took = [int(word) for word in words[:arrow]], words[arrow + 1:-1], int(words[-1])
                is_good = all(life >= need for life, need in zip(lives, needs))
                self.assertEqual((len(needs), len(rows)), (len(params), len(results)))
                self.assertEqual(desk.say(f"fresh {name}{told}"), "yes" if is_good else "no")
                verdict = desk.say(f"judge {name}{told}") if written_out(program, name) <= 80 else None
                if verdict is not None:
                    self.assertEqual(verdict == "fresh", is_good)
                for _ in range(4):
                    letters = "".join(chance.choice("yn") for _ in range(9))
                    ended = desk.say(f"run {name} {letters}{told}").split(" ")
                    if not is_good:
                        if ended[0] == "sour" and verdict is not None:
                            self.assertGreaterEqual(int(ended[1]), int(verdict.split(" ")[1]))
                            sour += 1
                        continue
                    self.assertNotEqual(ended[0], "sour")
                    if ended[0] == "done":
                        fresh += 1
                        self.assertTrue(int(ended[1]) <= took or took == 60)
                        for pair, row in zip(ended[2:], rows):
                            if row != "sour":
                                terms = row.split(":")
                                bounds = [int(term) for term in terms[:1] if term != "-"]
                                bounds += [life - int(term) for life, term in zip(lives, terms[1:]) if term != "-"]
                                # Nothing is told of how sour a value is.
                                self.assertTrue(int(pair.split(":")[1]) >= min(bounds) or min(bounds) < 0)
        self.assertGreater(min(fresh, sour), 100)


class OthersTest(unittest.TestCase):
    def test_desks_do_not_share_programs(self):
        one, other = Desk(), Desk()
        one.say("program kind m 1")
        self.assertEqual(error_of(other, "show"), ("command",))
        other.say("program kind n 2")
        self.assertEqual((one.say("show"), other.say("show")), ("kind m 1", "kind n 2"))

    def test_the_same_as_functions(self):
        desk = desk_with(DAIRY)
        event, outcome = run(DAIRY, "make", (4,), (False,))
        self.assertEqual(desk.say("run make n 4"), f"done {event[1]} {outcome[0][0]}:{outcome[0][1]}")


if __name__ == "__main__":
    unittest.main()
