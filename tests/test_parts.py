"""Reading and linking parts (points [43], [44])."""

import random
import unittest

from drawing import draw_sound
from parting import (
    called, cut, declared, expected_part, kinds_given, kinds_taken, looser, part_text, raised, told_part, use_line,
)
from samples import DAIRY
from test_reading import WRONG_LINES

from sourwright.errors import LinkRefused
from sourwright.flow import check_sound
from sourwright.judging import is_fresh
from sourwright.lifetypes import LifeType
from sourwright.lives import composed_type, exact_type
from sourwright.parts import Part, link
from sourwright.programs import Program
from sourwright.rows import LifeRow
from sourwright.texts import show_program

A = "part a\nkind m 20\nprocedure f x:m -> x\nwait 1\nend"
B = "part b\nkind m 20\nuse f m:-1 -> m:-:1 1\nprocedure g x:m -> x\ncall f x -> x\nend"
WHOLE = """part whole
kind m 8
kind n 20
well w m 2
dish d m n 3
use f m:3 n:-1 -> m:20:-:- n:-:4:0 n:sour 6
use nil -> 0
use bad m:61 -> m:sour never
procedure g x:m y:n -> x z
call f x y -> x y z
if
call nil ->
else
call bad x -> x
end
end
procedure h x:m ->
put s x
take x s
end"""
USES = (
    "use f ->", "use f -> 1 1", "use f", "use", "use -> 1", "use f 1", "use f m:1 1", "use f -> m:1 -> 1", "use f -> -1",
    "use f -> 62", "use f -> 01", "use f -> -", "use f -> 1 never", "use f -> never never", "use f -> Never", "use f -> sour",
    "use if -> 1", "use F -> 1", "use sevenly -> 1", "use f  -> 1", "use f ->  1", "use f -> 1 ", " use f -> 1", "use f -> ",
    "use f m:-2 -> 1", "use f m:62 -> 1", "use f m: -> 1", "use f m -> 1", "use f :1 -> 1", "use f m:1:1 -> 1", "use f m:- -> 1",
    "use f m:sour -> 1", "use f if:1 -> 1", "use f m:+1 -> 1", "use f m:-0 -> 1", "use f m:01 -> 1", "use f x:m -> 1",
    "use f -> m: 1", "use f -> m 1", "use f -> m:- 1", "use f -> m:-2 1", "use f -> m:61 1", "use f -> m:1:1 1", "use f -> :1 1",
    "use f -> if:1 1", "use f -> m:sour:1 1", "use f -> m:-:sour 1", "use f -> m:SOUR 1", "use f -> m:never 1",
    "use f m:1 -> m:1 1", "use f m:1 -> m:-:- 1", "use f m:1 -> m:-:-1 1", "use f m:1 -> m:-:62 1", "use f m:1 -> m:1:1:1 1",
    "use f m:1 -> m:-1:61: 1", "use f m:1 -> m::1 1", "use f m:1 -> m:1: 1", "use f m:1 -> m:1:1 62", "use f m:1 -> m:1,1 1",
    "use f m:61 -> m:sour nevr", "use f m:60 -> m:sour never", "use f m:61 -> m:0:1 never", "use f m:61 m:1 -> never",
    "use f m:61 -> m:sour m:-:1 never", "use f m:61 -> m:sour", "uses f -> 1", "Use f -> 1", "use f => 1",
)
RIGHT_USES = (
    "use f -> 0", "use f -> 61", "use f -> never", "use f m:-1 -> 1", "use f m:61 -> 1", "use f m:61 -> never", "use f -> m:-1 1",
    "use f -> m:60 1", "use f -> m:sour 1", "use f -> m:sour never", "use f m:61 m:61 -> m:sour n:sour never",
    "use f m:0 -> m:-1:61 1", "use f m:0 -> m:-:0 1", "use f m:0 -> m:60:- 1", "use f m:5 n:5 m:5 -> m:-:-:-:61 n:sour 61",
    "use never m:1 -> 1", "use f sour:1 -> 1", "use sour -> 1", "use f m:61 -> m:sour 60",
)


def fault(text):
    return raised(Part.read, text)


class LinesTest(unittest.TestCase):
    def check(self, text):
        told = told_part(text)
        self.assertEqual(told, expected_part(text), text)
        return told[0]

    def test_right_text(self):
        self.assertEqual(self.check(WHOLE), "part")
        self.assertEqual([self.check(text) for text in (A, B)], ["part", "part"])
        for text in ("part a\nkind m 0", "part part", "part a\nkind m 0\nuse f -> 0", "part never\nkind sour 9\nuse a -> 1"):
            self.check(text)

    def test_first_line(self):
        for line in ("", "part", "part ", "part if", "part a b", "Part a", "parts a", " part a", "part  a", "part a ", "part A", "kind m 1",
                     "part sevenly", "part 1"):
            self.assertEqual(fault(line + WHOLE[10:]), ("line", 0), line)
            self.assertEqual(self.check(line), "line")
        self.assertEqual(fault(WHOLE[11:]), ("line", 0))
        self.assertEqual(fault(show_program(DAIRY)), ("line", 0))
        self.assertEqual(fault("part a\n" + WHOLE), ("line", 1))

    def test_lines_of_uses(self):
        lines = WHOLE.split("\n")
        for line in USES:
            self.assertEqual(fault("part a\nkind m 1\n" + line), ("line", 2), line)
            for at in (5, 6, 8):
                self.assertEqual(fault("\n".join(lines[:at] + [line] + lines[at:])), ("line", at), line)
        for line in RIGHT_USES:
            self.assertEqual(fault("part a\nkind m 1\nkind n 1\nkind sour 1\n" + line), None, line)
            self.check("part a\nkind m 1\nkind n 1\nkind sour 1\n" + line)

    def test_where_lines_belong(self):
        lines = WHOLE.split("\n")
        for at in range(len(lines)):
            for line in ("part b", "kind k 1", "well v m 1", "dish e m m 1", "use q -> 1", "procedure p ->", "end", "wait 1", "", "else"):
                self.check("\n".join(lines[:at] + [line] + lines[at:]))
                self.check("\n".join(lines[:at] + [line] + lines[at + 1:]))
        self.assertEqual(fault("part a\nuse f -> 1\nkind m 1"), ("line", 2))
        self.assertEqual(fault("part a\nkind m 1\nprocedure p ->\nend\nuse f -> 1"), ("line", 4))
        self.assertEqual(fault("part a\nkind m 1\nprocedure p ->\nuse f -> 1\nend"), ("line", 3))
        self.assertEqual(fault("part a\nkind m 1\nprocedure p ->\nend\npart b"), ("line", 4))

    def test_missing_lines(self):
        lines = WHOLE.split("\n")
        for many in range(1, len(lines)):
            told = fault("\n".join(lines[:many]))
            if many in (1, 2, 3, 4, 5, 6, 7, 8, 16):
                self.assertTrue(told is None or told[0] != "line", many)
            else:
                self.assertEqual(told, ("line", many))

    def test_wrong_lines_of_programs(self):
        lines = WHOLE.split("\n")
        for wrong in WRONG_LINES:
            if not wrong.startswith(("part", "use")):
                for at in range(1, len(lines) + 1):
                    self.assertEqual(fault("\n".join(lines[:at] + [wrong] + lines[at:])), ("line", at), (wrong, at))

    def test_changed_texts(self):
        # Lines and words left out, doubled, exchanged and otherwise.
        chance = random.Random(71)
        words = ["x", "m", "n", "if", "end", "7", "-1", "61", "62", "->", "+", "x:m", "m:1", "m:sour", "m:-:1", "never", "sour", "use", "-", ""]
        sorts = {}
        for _ in range(6000):
            lines = [line.split(" ") for line in WHOLE.split("\n")]
            for _ in range(chance.choice((1, 1, 2))):
                at = chance.randrange(len(lines))
                way = chance.randrange(8)
                spot = chance.randrange(len(lines[at])) if lines[at] else 0
                other = chance.randrange(len(lines))
                if way == 0:
                    lines.pop(at)
                elif way == 1:
                    lines.insert(other, list(lines[at]))
                elif way == 2:
                    lines[at], lines[other] = lines[other], lines[at]
                elif way == 3:
                    lines[at].insert(spot, chance.choice(words))
                elif way == 4 and lines[at]:
                    lines[at][spot] = chance.choice(words)
                elif way == 5 and lines[at]:
                    lines[at].pop(spot)
                elif way == 6 and lines[at] and lines[other]:
                    where = chance.randrange(len(lines[other]))
                    lines[at][spot], lines[other][where] = lines[other][where], lines[at][spot]
                elif way == 7 and lines[at]:
                    parts = lines[at][spot].split(":")
                    parts[chance.randrange(len(parts))] = chance.choice(["m", "n", "-", "-1", "0", "61", "sour", "x"])
                    lines[at][spot] = ":".join(parts)
            sort = self.check("\n".join(" ".join(line) for line in lines))
            sorts[sort] = sorts.get(sort, 0) + 1
        self.assertEqual(set(sorts), {"line", "program", "use", "unfilled", "part"})
        self.assertGreater(min(sorts.values()), 10)

    def test_changed_characters(self):
        chance = random.Random(72)
        for _ in range(4000):
            at = chance.randrange(len(WHOLE))
            more = chance.choice(" \n:-zm016>")
            self.check(WHOLE[:at] + more + WHOLE[at + chance.randrange(2):])


class OrderTest(unittest.TestCase):
    """Which error comes first where several things are wrong."""

    HEAD = "part a\nkind m 8\n"

    def test_lines_come_first(self):
        self.assertEqual(fault("part a\nkind m 61\nuse f x:1 -> 1\nno"), ("line", 3))
        self.assertEqual(fault("part a\nkind m 61\nuse f m:62 -> 1"), ("line", 2))

    def test_then_kinds_wells_and_dishes(self):
        for declared_lines, told in (
            ("kind m 61", ("keep", 0)), ("kind m 1\nkind m 1", ("name", 1)), ("", ("kinds", 0)), ("kind m 1\nwell w k 1", ("kind", 0)),
            ("kind m 1\nwell w m 10", ("ticks", 0)), ("kind m 1\ndish d m k 1", ("kind", 0)), ("kind m 1\ndish d m m 0", ("ticks", 0)),
        ):
            text = "\n".join(["part a"] + ([declared_lines] if declared_lines else []) + ["use f q:1 -> 1", "use f -> 1", "procedure f -> q", "end"])
            self.assertEqual(fault(text), ("program", told[0], -1, told[1]))

    def test_then_uses(self):
        for uses, index in (
            ("use f -> 1\nuse f -> 1", 1), ("use f q:1 -> 1", 0), ("use f -> q:1 1", 0), ("use f -> 1\nuse g -> m:1 q:sour 1", 1),
            ("use f -> 1\nuse g -> 1\nuse f q:1 -> 1", 2), ("use f -> 1\nuse f -> 1\nuse g q:1 -> 1", 1), ("use f q:61 -> never", 0),
        ):
            self.assertEqual(fault(self.HEAD + uses + "\nprocedure f ->\nwait 0\nend"), ("use", index))

    def test_then_procedures(self):
        for procedures, told in (
            ("procedure f ->\nend", ("name", 0, -1)), ("procedure g ->\nend\nprocedure f ->\nend", ("name", 1, -1)),
            ("procedure g ->\nend\nprocedure g ->\nend", ("name", 1, -1)), ("procedure g ->\ncall h ->\nend", ("unknown", 0, 0)),
            ("procedure g ->\ncall g ->\nend", ("unknown", 0, 0)), ("procedure g ->\ncall f -> x\nend", ("count", 0, 0)),
            ("procedure g x:m ->\ncall f x ->\nend", ("count", 0, 0)), ("procedure g x:m ->\ncall f x x -> y\nend", ("count", 0, 0)),
            ("procedure g ->\nend\nprocedure h x:m ->\ncall f x -> x\nend", ("kind", 1, 0)),
            ("procedure g x:n ->\ncall f x -> x\nend", ("kind", 0, 0)), ("procedure g -> x\nend", ("result", 0, -1)),
            ("procedure g x:m ->\nput x x\nend", ("shelf", 0, -1)), ("procedure g x:m ->\nwait 61\ncopy y z\nend", ("step", 0, 0)),
        ):
            text = self.HEAD + "kind n 3\nuse f m:1 -> n:1:- 1\n" + procedures
            self.assertEqual(fault(text), ("program",) + told, procedures)
            # A later procedure that is not sound comes behind all rules.
            self.assertEqual(fault(text + "\nprocedure z x:m ->\nput s x\nput t x\nend"), ("program",) + told, procedures)

    def test_then_soundness(self):
        text = self.HEAD + "use f m:1 -> m:1:- 1\nuse none -> 1\nprocedure g x:m -> x\nput s x\ncall none ->\ncall f x -> x\nend"
        self.assertEqual(fault(text), ("unfilled", "g", 2, "x", 0))
        text = self.HEAD + "use f -> m:1 1\nprocedure g -> y\nif\ncall f -> y\nelse\nend\nend"
        self.assertEqual(fault(text), ("unfilled", "g", 2, "y", 1))


class PartTest(unittest.TestCase):
    def test_attributes(self):
        part = Part.read(WHOLE)
        self.assertEqual(part.name, "whole")
        self.assertEqual(part.kinds, (("m", 8), ("n", 20)))
        self.assertEqual((part.wells, part.dishes), ((("w", "m", 2),), (("d", "m", "n", 3),)))
        self.assertEqual([given[0] for given in part.procedures], ["g", "h"])
        self.assertEqual(part.procedures[1], ("h", (("x", "m"),), (), (("put", "s", "x"), ("take", "x", "s"))))
        self.assertEqual(str(part), WHOLE)
        self.assertEqual(Part.read(text=WHOLE), part)
        self.assertIs(type(part.read(WHOLE)), Part)

    def test_uses(self):
        part = Part.read(WHOLE)
        expected = {
            "f": LifeType((8, 20), (3, -1), 6, (LifeRow(20, (None, None)), LifeRow(None, (4, 0)), None)),
            "nil": LifeType((), (), 0, ()), "bad": LifeType.never((8,), 1),
        }
        self.assertEqual(part.uses, expected)
        self.assertEqual(list(part.uses), ["f", "nil", "bad"])
        part.uses["f"] = None
        part.uses.clear()
        self.assertEqual(part.uses, expected)
        self.assertEqual(Part.read(A).uses, {})
        self.assertEqual(Part.read("part a\nkind m 9\nuse f m:61 -> m:sour 60").uses["f"], LifeType((9,), (61,), 60, (None,)))

    def test_types(self):
        part = Part.read(B)
        expected = {"g": LifeType((20,), (-1,), 2, (LifeRow(None, (2,)),))}
        self.assertEqual(part.types(), expected)
        part.types()["g"] = None
        self.assertEqual(part.types(), expected)
        self.assertEqual(list(Part.read(WHOLE).types()), ["g", "h"])
        self.assertTrue(Part.read(WHOLE).types()["g"].is_never)

    def test_types_are_plain_but_put_together_before(self):
        # The need is the keep, so that the plain type of f tells no loss; g takes f's own numbers.
        text = "part a\nkind m 3\nprocedure f x:m -> x\nwait 3\nscale y x 1\nend\nprocedure g x:m -> x\ncall f x -> x\nend"
        types = Part.read(text).types()
        self.assertEqual(types["f"], LifeType((3,), (3,), 4, (None,)))
        program = Program.read(text[7:])
        self.assertEqual(types, {name: exact_type(program, name).plain() for name in ("f", "g")})

    def test_equality(self):
        self.assertTrue(Part.read(A) == Part.read(A))
        self.assertFalse(Part.read(A) == Part.read(A.replace("20", "21")))
        self.assertFalse(Part.read(A) == Part.read(A.replace("part a", "part c")))
        self.assertFalse(Part.read(A) == A)
        self.assertTrue(Part.read(A) != A)

    def test_parts_without_uses_are_like_programs(self):
        chance = random.Random(73)
        for _ in range(60):
            program = draw_sound(chance, size=9)
            part = Part.read("part a\n" + show_program(program))
            self.assertEqual((part.kinds, part.wells, part.dishes, part.procedures), declared(program) + (program.procedures,))
            self.assertEqual(part.types(), {name: exact_type(program, name).plain() for name, *_ in program.procedures})
            self.assertEqual(link((part,)), program)


def renamed(text, name):
    return f"part {name}\n" + text.split("\n", 1)[1]


class LinkTest(unittest.TestCase):
    def test_example(self):
        whole = link((Part.read(A), Part.read(B)))
        self.assertEqual([one[0] for one in whole.procedures], ["f", "g"])
        self.assertEqual(exact_type(whole, "g"), LifeType((20,), (-1,), 2, (LifeRow(None, (2,)),)))
        self.assertEqual(link([Part.read(A), Part.read(B)]), whole)
        self.assertEqual(link(parts=(Part.read(A), Part.read(B))), whole)
        self.assertIs(type(whole), Program)

    def test_without_parts(self):
        for parts in ((), []):
            self.assertEqual(raised(link, parts), ("program", "kinds", -1, 0))

    def test_kinds_wells_and_dishes_in_order(self):
        one = "part a\nkind m 1\nkind k 2\nwell w m 1\ndish d m k 1"
        two = "part b\nkind n 3\nkind k 2\nkind m 1\nwell v n 2\nwell w m 1\ndish e n m 1\ndish d m k 1"
        whole = link((Part.read(one), Part.read(two)))
        self.assertEqual(whole, Program(
            (("m", 1), ("k", 2), ("n", 3)), (("w", "m", 1), ("v", "n", 2)), (("d", "m", "k", 1), ("e", "n", "m", 1)), (),
        ))

    def errors(self, *texts):
        return raised(link, tuple(Part.read(text) for text in texts))

    def test_part(self):
        self.assertEqual(self.errors(A, A), ("part", 1))
        self.assertEqual(self.errors(A, renamed(B, "a"), A), ("part", 1))
        self.assertEqual(self.errors(A, B, renamed(A, "c"), B), ("part", 3))

    def test_clash(self):
        base = "part a\nkind m 1\nkind k 2\nwell w m 1\ndish d m k 1"
        for changed in ("part b\nkind m 2", "part b\nkind z 1\nkind k 1", "part b\nkind m 1\nwell w m 2", "part b\nkind k 2\nwell w k 1",
                        "part b\nkind m 1\nkind k 2\ndish d m k 2", "part b\nkind m 1\nkind k 2\ndish d k k 1", "part b\nkind m 1\ndish d m m 1"):
            self.assertEqual(self.errors(base, changed), ("clash", 1))
            self.assertEqual(self.errors(base, "part c\nkind m 1", changed), ("clash", 2))
            # A part of the same name comes before it, also if it comes later.
            self.assertEqual(self.errors(base, changed, base), ("part", 2))
        # Wells and dishes have names of their own.
        self.assertIsNone(self.errors(base, "part b\nkind w 7\nkind d 8\nwell d d 1\nwell m d 1\ndish w w d 2\ndish k d d 1"))

    def test_procedure(self):
        self.assertEqual(self.errors(A, renamed(A, "b")), ("procedure", 1))
        self.assertEqual(self.errors(A, renamed(A, "b"), "part c\nkind m 3"), ("clash", 2))
        self.assertEqual(self.errors(A, "part b\nkind m 20\nuse q -> 1", renamed(A, "c")), ("procedure", 2))

    def test_missing(self):
        self.assertEqual(self.errors(B), ("missing", 0))
        self.assertEqual(self.errors(B, A), ("missing", 0))
        self.assertEqual(self.errors(A, "part c\nkind m 20\nuse g -> 1", B), ("missing", 1))
        # A use of an earlier part is no procedure of it.
        self.assertEqual(self.errors(A, B, "part c\nkind m 20\nuse f m:20 -> m:-:60 60\nuse h -> 1"), ("missing", 2))
        for use in ("use f -> m:5 9", "use f m:5 m:5 -> m:-:9:9 9", "use f k:5 -> m:5:- 9", "use f m:5 -> k:5:- 9", "use f m:5 -> 9",
                    "use f m:5 -> m:-:9 m:-:9 9"):
            self.assertEqual(self.errors(A, "part b\nkind m 20\nkind k 1\n" + use), ("missing", 1), use)
            refused = "part b\nkind m 20\nuse f m:-1 -> m:-:1 0"
            self.assertEqual(self.errors(A, refused, "part c\nkind m 20\nkind k 1\n" + use), ("missing", 2), use)

    def test_refused(self):
        for use, refused in (
            ("use f m:-1 -> m:-:1 1", False), ("use f m:-1 -> m:-:1 0", True), ("use f m:-1 -> m:-:0 1", True), ("use f m:5 -> m:3:4 9", False),
            ("use f m:0 -> m:sour 1", False), ("use f m:61 -> m:sour never", False), ("use f m:61 -> m:0:0 0", False),
            ("use f m:5 -> m:20:0 1", True), ("use f m:5 -> m:4:- 1", False), ("use f m:4 -> m:4:- 1", True), ("use f m:20 -> m:19:- 1", False),
            ("use f m:20 -> m:20:- 1", True),
        ):
            text = "part b\nkind m 20\n" + use
            self.assertEqual(self.errors(A, text), ("refused", "b", "f") if refused else None, use)

    def test_the_first_one_refused(self):
        two = A.replace("wait 1", "wait 2").replace("part a", "part d").replace("f x", "h x")
        good, bad = "use {} m:-1 -> m:-:2 2", "use {} m:-1 -> m:-:0 1"
        head = "kind m 20\n"

        def part(name, *uses):
            return f"part {name}\n" + head + "\n".join(uses)

        self.assertEqual(self.errors(A, two, part("b", good.format("f"), good.format("h"))), None)
        self.assertEqual(self.errors(A, two, part("b", good.format("f"), bad.format("h"))), ("refused", "b", "h"))
        self.assertEqual(self.errors(A, two, part("b", bad.format("h"), bad.format("f"))), ("refused", "b", "h"))
        self.assertEqual(self.errors(A, part("b", bad.format("f")), two, part("c", bad.format("h"))), ("refused", "b", "f"))

    def test_a_type_that_is_told_under_uses(self):
        # What b tells is by what it uses, which is worse than what a has.
        slow = B.replace("m:-:1 1", "m:-:7 7")
        use = "part c\nkind m 20\nuse g m:-1 -> m:-:{0} {0}"
        self.assertEqual(self.errors(A, slow, use.format(8)), None)
        self.assertEqual(self.errors(A, slow, use.format(7)), ("refused", "c", "g"))
        self.assertEqual(self.errors(A, B, use.format(2)), None)
        self.assertEqual(self.errors(A, B, use.format(1)), ("refused", "c", "g"))

    def check_refusal(self, parts):
        """Holds the caller of a refusal against the two types; returns whether there was one."""
        try:
            whole = link(parts)
        except LinkRefused as error:
            refusal = error
        else:
            self.check_linked(parts, whole)
            return False
        told = {}
        for at, part in enumerate(parts):
            bad = [name for name in part.uses if not told[name].stands_for(part.uses[name])]
            if bad:
                break
            told.update(part.types())
        self.assertEqual((refusal.part, refusal.used), (part.name, bad[0]))
        program, name, lives = refusal.caller
        before = link(parts[:at])
        self.assertEqual(program.kinds[:len(before.kinds)], before.kinds)
        self.assertEqual((program.wells, program.dishes, program.procedures[:-1]), (before.wells, before.dishes, before.procedures))
        self.assertEqual(program.procedures[-1][0], name)
        self.assertNotIn(name, before)
        self.assertTrue(check_sound(program))
        self.assertEqual(called(program, name), [bad[0]])
        for life_type, fresh in ((part.uses[bad[0]], True), (told[bad[0]], False)):
            by = composed_type(program, name, {bad[0]: life_type})
            is_by = not by.is_never and all(need <= life for need, life in zip(by.needs, lives))
            self.assertIs(is_by, fresh)
        for life, (_, kind) in zip(lives, program[name].params):
            self.assertTrue(-1 <= life <= program.keep_of(kind))
        return True

    def check_linked(self, parts, whole):
        """What is fresh by the types that parts tell is fresh in the linked program."""
        self.assertTrue(check_sound(whole))
        self.assertEqual(whole.procedures, sum((part.procedures for part in parts), ()))
        for part in parts:
            for name, told in part.types().items():
                exact = exact_type(whole, name)
                self.assertTrue(exact.stands_for(told))
                if not told.is_never:
                    self.assertTrue(is_fresh(whole, name, tuple(max(need, -1) for need in told.needs)))

    def test_drawn_parts(self):
        chance = random.Random(74)
        counts = {True: 0, False: 0}
        while sum(counts.values()) < 250:
            program = draw_sound(chance, procedures=4, size=7, most=chance.choice((6, 12, 40)))
            parts = cut(chance, program)
            self.assertFalse(self.check_refusal(parts))
            self.assertEqual(link(parts), program)
            if all(not part.uses for part in parts):
                continue
            # Uses under better types than what is told.
            at = chance.choice([at for at, part in enumerate(parts) if part.uses])
            text = str(parts[at])
            used = chance.choice(list(parts[at].uses))
            better = self.better(chance, parts[at].uses[used])
            line = use_line(used, kinds_taken(program, used), kinds_given(program, used), better)
            lines = [line if one.startswith(f"use {used} ") else one for one in text.split("\n")]
            counts[self.check_refusal(parts[:at] + (Part.read("\n".join(lines)),) + parts[at + 1:])] += 1
        self.assertGreater(min(counts.values()), 40)

    def better(self, chance, told):
        """A type that is better in some number, if a line can tell it."""
        if told.sours:
            return LifeType(told.keeps, [-1] * len(told.keeps), 60, [LifeRow(0, [None] * len(told.keeps)) for _ in told.rows])
        needs, took, rows = list(told.needs), told.took, list(told.rows)
        for _ in range(chance.choice((1, 2))):
            way = chance.randrange(3)
            if way == 0 and needs:
                at = chance.randrange(len(needs))
                needs[at] = max(needs[at] - chance.choice((1, 3)), -1)
            elif way == 1:
                took = max(took - 1, 0)
            elif rows:
                at = chance.randrange(len(rows))
                if rows[at] is None:
                    rows[at] = LifeRow(chance.choice((0, 1, 2)), [None] * len(needs))
                    continue
                left = rows[at].left if rows[at].left is None else min(rows[at].left + 1, 60)
                rows[at] = LifeRow(left, [None if lost is None else max(lost - 1, 0) for lost in rows[at].lost])
        return LifeType(told.keeps, needs, took, rows)

    def test_types_under_exact_uses_are_those_of_the_whole(self):
        chance = random.Random(75)
        for _ in range(120):
            program = draw_sound(chance, procedures=4, size=7)
            parts = cut(chance, program, loosen=False)
            for part in parts:
                for name, told in part.types().items():
                    exact = exact_type(program, name).plain()
                    self.assertTrue(told.stands_for(exact) and exact.stands_for(told))
                    self.assertEqual(told, exact)

    def test_types_under_worse_uses(self):
        chance = random.Random(76)
        for _ in range(120):
            program = draw_sound(chance, procedures=3, size=7)
            types = {}
            for name, *_ in program.procedures:
                lines = [use_line(one, kinds_taken(program, one), kinds_given(program, one), types[one]) for one in called(program, name)]
                part = Part.read(part_text("a", declared(program), lines, (program.procedures[[g[0] for g in program.procedures].index(name)],)))
                self.assertEqual(part.uses, {one: types[one] for one in called(program, name)})
                self.assertEqual(part.types(), {name: composed_type(program, name, types).plain()})
                types[name] = looser(chance, composed_type(program, name, types), 5)

    def test_more_than_six_of_each(self):
        letters = [a + b for a in "abcdef" for b in "abcdefg"]
        texts = [
            f"part p{one}\nkind k{one} 5\nwell w{one} k{one} 1\nprocedure q{one} -> x\nget x w{one}\nend" for one in letters[:40]
        ]
        whole = link(tuple(Part.read(text) for text in texts))
        self.assertEqual((len(whole.kinds), len(whole.wells), len(whole)), (40, 40, 40))


if __name__ == "__main__":
    unittest.main()
