"""Standing in, and callers for each number that matters (points [28] to [31])."""

import itertools
import random
import unittest

from drawing import draw_sound, draw_type, is_sound, shaken
from samples import DAIRY, DISHES, KINDS, WELLS
from second import Shape

from sourwright.errors import InvalidProgram, InvalidStart, UnknownName
from sourwright.flow import check_sound
from sourwright.forms import is_word
from sourwright.judging import is_fresh
from sourwright.lifetypes import LifeType
from sourwright.lives import composed_type, exact_type
from sourwright.newnames import new_words
from sourwright.programs import Program
from sourwright.rows import LifeRow
from sourwright.standing import callers, stand_in

SLOW = ("slow", (("x", "milk"),), ("y",), (("wait", 1), ("dish", "y", "press", "x")))
MORE = DAIRY.with_procedure(SLOW)


def better(life_type, number):
    """The type with this number better by one."""
    needs, took, rows = list(life_type.needs), life_type.took, list(life_type.rows)
    if number[0] == "need":
        needs[number[1]] -= 1
    elif number[0] == "took":
        took -= 1
    elif number[0] == "left":
        row = rows[number[1]]
        rows[number[1]] = LifeRow(row.left + 1, row.lost)
    else:
        row = rows[number[1]]
        rows[number[1]] = LifeRow(row.left, [lost - (at == number[2]) if lost is not None else None
                                             for at, lost in enumerate(row.lost)])
    return LifeType(life_type.keeps, needs, took, rows, sours=life_type.sours)


def numbers_of(plain):
    """The numbers that matter, in order."""
    found = [("need", at) for at, need in enumerate(plain.needs) if need >= 0]
    found += [("took",)] if 1 <= plain.took <= 59 else []
    for result, row in enumerate(plain.rows):
        if row is not None:
            found += [("left", result)] if row.left is not None and row.left < 60 else []
            found += [("lost", result, at) for at, lost in enumerate(row.lost) if lost is not None and lost >= 1]
    return found


def fresh_by(life_type, lives):
    return not life_type.is_never and all(life >= need for life, need in zip(lives, life_type.needs))


def with_other(program, name, other):
    """The program whose procedure of this name, the last one, calls another one in its one call."""
    last = program.procedures[-1]
    assert last[0] == name
    body = tuple(step[:1] + (other,) + step[2:] if step[0] == "call" else step for step in last[3])
    return Program(program.kinds, program.wells, program.dishes, program.procedures[:-1] + (last[:3] + (body,),))


class Checks(unittest.TestCase):
    def check_program(self, program, made, name, callee):
        """Holds a program with a caller against the one that it is made of."""
        self.assertEqual(made.kinds[:len(program.kinds)], program.kinds)
        self.assertEqual((made.wells, made.dishes), (program.wells, program.dishes))
        self.assertEqual(made.procedures[:-1], program.procedures)
        self.assertEqual(made.procedures[-1][0], name)
        self.assertNotIn(name, program)
        self.assertTrue(check_sound(made))
        calls = [step for step in Shape(made, name).steps if step[0] == "call"]
        self.assertEqual([call[1] for call in calls], [callee])

    def check_stand_in(self, program, p, q):
        """Holds what stand_in tells against the types, and against judging; returns whether p may stand for q."""
        told = stand_in(program, p, q)
        may = exact_type(program, p).stands_for(exact_type(program, q))
        self.assertEqual(told is None, may)
        if told is not None:
            made, name, lives = told
            self.check_program(program, made, name, q)
            self.assertIs(type(lives), tuple)
            self.assertIs(is_fresh(made, name, lives), True)
            self.assertIs(is_fresh(with_other(made, name, p), name, lives), False)
        return may

    def check_callers(self, program, name):
        plain = exact_type(program, name).plain()
        told = callers(program, name)
        self.assertIs(type(told), tuple)
        if plain.is_never:
            self.assertEqual(told, ())
            return []
        self.assertEqual([one[0] for one in told], numbers_of(plain))
        for number, made, caller, lives in told:
            self.check_program(program, made, caller, name)
            self.assertIs(is_fresh(made, caller, lives), False)
            self.assertFalse(fresh_by(composed_type(made, caller, {name: plain}), lives))
            self.assertTrue(fresh_by(composed_type(made, caller, {name: better(plain, number)}), lives))
        return [one[0][0] for one in told]


class StandInTest(Checks):
    def test_examples(self):
        self.assertEqual((stand_in(MORE, "slow", "make") is None, stand_in(MORE, "make", "slow") is None), (True, False))
        self.assertEqual([one[0] for one in callers(DAIRY, "make")], [("need", 0), ("took",), ("left", 0)])
        self.assertIsNone(stand_in(program=MORE, p="slow", q="make"))
        self.check_stand_in(MORE, "make", "slow")
        self.check_callers(program=DAIRY, name="make")
        self.assertEqual(callers(program=DAIRY, name="make"), callers(DAIRY, "make"))

    def test_itself(self):
        for name in ("make", "blend", "slow"):
            self.assertIsNone(stand_in(MORE, name, name))

    def test_errors_in_order(self):
        for p, q, told in (("cow", "cows", "cow"), ("make", "cows", "cows"), ("cow", "make", "cow"), ("blend", "x", "x")):
            with self.assertRaises(UnknownName) as caught:
                stand_in(MORE, p, q)
            self.assertEqual(caught.exception.name, told)
        for p, q in (("make", "blend"), ("blend", "slow")):
            with self.assertRaises(InvalidStart) as caught:
                stand_in(MORE, p, q)
            self.assertEqual((caught.exception.word, caught.exception.index), ("fit", 0))
        for name in ("cow", "", "milk"):
            with self.assertRaises(UnknownName) as caught:
                callers(MORE, name)
            self.assertEqual(caught.exception.name, name)

    def test_what_fits(self):
        kinds = KINDS + (("cream", 8),)
        heads = (
            ((("x", "milk"),), ("x",)), ((("y", "milk"),), ("y",)), ((("x", "cream"),), ("x",)), ((("x", "milk"),), ()),
            ((("x", "milk"), ("y", "milk")), ("x",)), ((("x", "milk"),), ("x", "x")), ((("x", "milk"), ("z", "cream")), ("z",)),
            ((("z", "cream"), ("x", "milk")), ("z",)), ((("x", "milk"), ("z", "cream")), ("x",)),
        )
        program = Program(kinds, WELLS, DISHES, tuple(("p" + "abcdefghi"[at], head[0], head[1], ()) for at, head in enumerate(heads)))
        names = [one[0] for one in program.procedures]
        for p, q in itertools.product(names, names):
            if p == q or {p, q} == {"pa", "pb"}:
                self.assertIsNone(stand_in(program, p, q))
            else:
                with self.assertRaises(InvalidStart):
                    stand_in(program, p, q)

    def test_each_reason(self):
        params = (("x", "milk"), ("y", "curd"))
        base = ("b", params, ("x", "y"), (("wait", 2), ("scale", "x", "x", 1)))
        others = (
            ("need", (("wait", 3), ("scale", "x", "x", 1)), False),
            ("early", (("wait", 1), ("scale", "x", "x", 1), ("wait", 1)), True),
            ("both", (("wait", 1), ("scale", "x", "x", 1), ("scale", "y", "y", 1)), False),
            ("late", (("wait", 2), ("scale", "x", "x", 1), ("wait", 1)), False),
            ("anew", (("get", "x", "cow"), ("wait", 1)), True),
            ("old", (("get", "x", "cow"), ("put", "s", "x"), ("take", "x", "s")), False),
            ("never", (("wait", 9), ("scale", "x", "x", 1)), False),
            ("sours", (("get", "z", "cow"), ("wait", 9), ("scale", "z", "z", 1)), False),
            ("loop", (("while", (("scale", "x", "x", 1),)),), False),
        )
        made = (base,) + tuple((name[:6], params, ("x", "y"), body) for name, body, _ in others)
        program = Program(KINDS, WELLS, DISHES, made)
        for name, _, may in others:
            self.assertIs(self.check_stand_in(program, name, "b"), may if name != "old" else False)
            # All of these are good for what never is fresh.
            self.check_stand_in(program, "b", name)
            self.assertIsNone(stand_in(program, name, "never"))
            self.assertIsNone(stand_in(program, name, "sours"))
        for p, q in itertools.product([one[0] for one in made], repeat=2):
            self.check_stand_in(program, p, q)

    def test_ticks_up_to_sixty(self):
        def waiting(name, *ticks):
            return (name, (), (), tuple(("wait", one) for one in ticks))

        made = (waiting("a", 58), waiting("b", 59), waiting("c", 60), waiting("d", 60, 1), waiting("e", 60, 60), waiting("f"))
        program = Program((("m", 3),), (), (), made)
        expected = {"a": "abcde", "b": "bcde", "c": "cde", "d": "cde", "e": "cde", "f": "abcdef"}
        for p, q in itertools.product("abcdef", repeat=2):
            self.assertIs(self.check_stand_in(program, p, q), q in expected[p])
        self.assertEqual([[one[0] for one in callers(program, name)] for name in "abcdef"],
                         [[("took",)], [("took",)], [], [], [], []])
        for name in "abcdef":
            self.check_callers(program, name)

    def test_drawn_programs(self):
        chance = random.Random(81)
        seen = {True: 0, False: 0}
        for _ in range(600):
            program = draw_sound(chance, procedures=2, most=chance.choice((4, 12, 60)))
            base = chance.choice(program.procedures)
            try:
                both = program.with_procedure(("vv",) + shaken(chance, base)[1:])
            except InvalidProgram:
                continue
            if is_sound(both):
                for p, q in ((base[0], "vv"), ("vv", base[0])):
                    seen[self.check_stand_in(both, p, q)] += 1
        self.assertGreater(min(seen.values()), 80)

    def test_handed_on(self):
        chance = random.Random(82)
        many = 0
        while many < 60:
            program = draw_sound(chance, procedures=1)
            base = program.procedures[0]
            try:
                both = program.with_procedure(("vv",) + shaken(chance, base)[1:])
            except InvalidProgram:
                continue
            if not is_sound(both) or stand_in(both, "vv", "p") is not None:
                continue
            many += 1
            args = tuple(name for name, _ in base[1])
            results = ("r", "s", "t")[:len(base[2])]
            wait = ("wait", chance.randrange(1, 9))
            reads = tuple(("scale", one, one, 1) for one in chance.sample(args + results, min(1, len(args + results))))
            inner = ("inner", base[1], results, (("call", "p", args, results), wait) + reads)
            outer = ("outer", base[1], (), (("wait", 1), ("call", "inner", args, results)) + reads)
            whole = both.with_procedure(inner).with_procedure(outer)
            inner = inner[:3] + ((("call", "vv", args, results), wait) + reads,)
            changed = both.with_procedure(inner).with_procedure(outer)
            for name in ("inner", "outer"):
                before, behind = exact_type(whole, name), exact_type(changed, name)
                self.assertTrue(behind.stands_for(before))
                for lives in (before.keeps, before.needs):
                    if fresh_by(before, lives):
                        self.assertTrue(is_fresh(whole, name, lives) and is_fresh(changed, name, lives))


class CallersTest(Checks):
    def test_each_number(self):
        body = (("get", "z", "cow"), ("mix", "w", "+", "x", "z"), ("scale", "y", "y", 1), ("wait", 1), ("get", "z", "cow"))
        program = Program(KINDS, WELLS, DISHES, (("p", (("x", "milk"), ("y", "milk")), ("w", "y", "z"), body),))
        rows = (LifeRow(None, (7, None)), LifeRow(None, (None, 7)), LifeRow(8, (None, None)))
        self.assertEqual(exact_type(program, "p").plain(), LifeType((8, 8), (2, 3), 7, rows))
        self.assertEqual(
            [one[0] for one in callers(program, "p")],
            [("need", 0), ("need", 1), ("took",), ("lost", 0, 0), ("lost", 1, 1), ("left", 2)],
        )
        self.check_callers(program, "p")

    def test_unlike_keeps(self):
        kinds = (("a", 0), ("b", 60), ("c", 7))
        wells = (("wa", "a", 1), ("wb", "b", 9), ("wc", "c", 2))
        body = (("wait", 3), ("get", "x", "wa"), ("copy", "u", "y"), ("scale", "z", "z", 2), ("get", "v", "wc"))
        program = Program(kinds, wells, (), (
            ("p", (("x", "a"), ("y", "b"), ("z", "c")), ("u", "v"), body), ("q", (("x", "a"),), ("x",), ()),
            ("r", (("y", "b"),), ("y", "y"), (("wait", 58),)), ("s", (("y", "b"),), ("y", "y"), (("wait", 59), ("get", "y", "wb"))),
        ))
        for name in ("p", "q", "r", "s"):
            self.check_callers(program, name)
        self.assertEqual([one[0] for one in callers(program, "r")], [("took",), ("lost", 0, 0), ("lost", 1, 0)])
        self.assertEqual(callers(program, "q"), ())

    def test_never(self):
        program = Program(KINDS, WELLS, DISHES, (
            ("p", (("x", "milk"),), (), (("wait", 9), ("scale", "x", "x", 1))),
            ("q", (), (), (("get", "x", "cow"), ("wait", 9), ("scale", "x", "x", 1))),
        ))
        self.assertEqual((callers(program, "p"), callers(program, "q")), ((), ()))

    def test_drawn_programs(self):
        chance = random.Random(83)
        words = []
        for _ in range(300):
            program = draw_sound(chance, procedures=2, most=chance.choice((4, 12, 60)))
            for given in program.procedures:
                words += self.check_callers(program, given[0])
        for word in ("need", "took", "left", "lost"):
            self.assertGreater(words.count(word), 30)


class NamesTest(Checks):
    def test_new_words(self):
        self.assertEqual(new_words((), 3), ("a", "b", "c"))
        self.assertEqual(new_words(("b", "a", "abcdef"), 2), ("c", "d"))
        letters = tuple("abcdefghijklmnopqrstuvwxyz")
        self.assertEqual(new_words(letters, 2), ("aa", "ab"))
        many = new_words((), 800)
        self.assertEqual((len(set(many)), all(is_word(word) for word in many), "if" in many), (800, True, False))

    def test_names_that_are_taken(self):
        letters = "abcdefghijklmnopqrstuvwxyz"
        kinds = tuple((letter, 8) for letter in letters) + (("new", 3), ("kinda", 3), ("extra", 5), ("aaaaaa", 2))
        made = tuple((letter, (("x", "a"),), ("x",), (("wait", 1),)) for letter in letters[:-1])
        made += tuple((name, (("x", "a"),), ("x",), ()) for name in ("z", "caller", "main", "aa", "ab", "aaaaaa", "zzzzzz"))
        program = Program(kinds, (), (), made)
        self.check_stand_in(program, "a", "z")
        self.check_stand_in(program, "a", "caller")
        self.check_callers(program, "a")
        made, name, _ = stand_in(program, "a", "z")
        self.assertTrue(is_word(name) and len({one[0] for one in made.procedures}) == len(made.procedures))


class TypesTest(unittest.TestCase):
    def test_any_types(self):
        # The reasons that stand_in goes by are those for which a type may not stand for another one.
        chance = random.Random(84)
        for _ in range(500):
            keeps = tuple(chance.choice((0, 1, 3, 8)) for _ in range(chance.randrange(3)))
            one, other = draw_type(chance, keeps, 2), draw_type(chance, keeps, 2)
            if not other.is_never and one.fits_needs(other):
                found = one.weaker_start(other)
                self.assertEqual(one.stands_for(other), one.fits_took(other) and found is None)
                if found is not None:
                    index, lives = found
                    self.assertGreater(other(lives)[index], max(0, one(lives)[index]))


if __name__ == "__main__":
    unittest.main()
