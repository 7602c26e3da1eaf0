"""Life types put together stretch by stretch, against those of all chains, and the time that they take."""

import random
import unittest

from drawing import draw_sound, draw_type
from second import Chains as AllChains
from timing import ratio

from sourwright.chains import Chains
from sourwright.errors import InvalidProgram, Unfilled
from sourwright.flow import check_sound
from sourwright.lifetypes import LifeType
from sourwright.lives import composed_type, exact_type
from sourwright.plans import Plan
from sourwright.programs import Program
from sourwright.rows import LifeRow
from sourwright.standing import stand_in

KINDS = (("pq", 44), ("aq", 19), ("bq", 20))
WELLS = (("oq", "pq", 6), ("mq", "aq", 1), ("yq", "bq", 9))
NQ = ("nq", (("rq", "bq"), ("vq", "bq")), (), (("wait", 2), ("while", (
    ("if", (("put", "jq", "rq"),), (("wait", 4), ("put", "jq", "vq"))), ("get", "sq", "mq"), ("put", "cq", "sq"),
    ("while", (("take", "sq", "cq"), ("wait", 7), ("put", "cq", "sq"))), ("get", "hq", "yq"), ("wait", 60), ("take", "sq", "cq"),
    ("take", "rq", "jq"), ("copy", "vq", "rq")))))
TQ = ("tq", (("cq", "aq"), ("jq", "aq"), ("wq", "bq")), ("cq", "cq"), (
    ("wait", 1), ("put", "rq", "jq"), ("while", (("take", "jq", "rq"), ("wait", 1), ("put", "rq", "jq"))),
    ("if", (("copy", "hq", "wq"), ("if", (("put", "kq", "hq"),), (("wait", 2), ("put", "kq", "hq"))), ("call", "nq", ("wq", "wq"), ()),
            ("put", "vq", "wq"), ("take", "wq", "vq"), ("take", "hq", "kq")), ()),
    ("take", "jq", "rq"), ("copy", "cq", "jq")))
LONG = Program(KINDS, WELLS, (), (NQ, TQ))


def with_name(given, name, callee):
    """A procedure by another name, which calls another procedure."""
    def changed(body):
        return tuple(
            ("call", callee) + step[2:] if step[0] == "call" else
            (step[0],) + tuple(changed(inner) for inner in step[1:]) if step[0] in ("if", "while") else step
            for step in body
        )

    return (name,) + given[1:3] + (changed(given[3]),)


SIX = Program(KINDS, WELLS, (), (
    NQ, TQ, with_name(NQ, "na", None), with_name(TQ, "ta", "na"), with_name(NQ, "nb", None), with_name(TQ, "tb", "nb")))


class AgreeTest(unittest.TestCase):
    def check(self, program, types):
        for name, *_ in program.procedures:
            told = composed_type(program, name, types)
            self.assertEqual(told, Chains(Plan(program, name), types).composed, (program.procedures, name, types))
            yield told

    def test_drawn_programs(self):
        chance = random.Random(111)
        counts = {True: 0, False: 0}
        for _ in range(250):
            program = draw_sound(chance, size=chance.choice((6, 12, 25, 40)), most=chance.choice((12, 40, 60)))
            types = {}
            for name, *_ in program.procedures:
                types[name] = exact_type(program, name)
            for told in self.check(program, types):
                counts[told.is_never] += 1
        self.assertGreater(min(counts.values()), 120)

    def test_drawn_types_of_callees(self):
        chance = random.Random(112)
        for _ in range(250):
            program = draw_sound(chance, size=12, most=40)
            types = {
                name: draw_type(chance, tuple(program.keep_of(kind) for _, kind in params), len(results))
                for name, params, results, _ in program.procedures
            }
            list(self.check(program, types))

    def test_names_that_go_round(self):
        # Loops in which names and shelves hand values on to each other, also in loops within loops.
        chance = random.Random(113)
        names = ("a", "b", "c", "d")
        done = 0
        while done < 400:
            def body(depth):
                steps = []
                for _ in range(chance.randrange(1, 6)):
                    word = chance.choice(("copy", "copy", "copy", "mix", "scale", "get", "while", "if", "rest", "wait"))
                    one, two, three = [chance.choice(names) for _ in range(3)]
                    if word == "copy":
                        steps.append(("copy", one, two))
                    elif word == "mix":
                        steps.append(("mix", one, "+", two, three))
                    elif word == "scale" and chance.random() < 0.3:
                        steps.append(("scale", one, two, 2))
                    elif word == "get" and chance.random() < 0.3:
                        steps.append(("get", one, "w"))
                    elif word == "wait":
                        steps.append(("wait", chance.randrange(1, 4)))
                    elif word == "rest":
                        shelf = chance.choice("st")
                        inner = body(depth + 1) if depth < 2 else ()
                        if not any(shelf in str(step) for step in inner):
                            steps += [("put", shelf, one)] + [step for step in inner if one not in str(step)] + [("take", one, shelf)]
                    elif word == "while" and depth < 3:
                        steps.append(("while", body(depth + 1)))
                    elif word == "if" and depth < 3:
                        steps.append(("if", body(depth + 1), body(depth + 1)))
                return tuple(steps)

            # Shelves that stay filled around a loop, and are taken from and filled again in it.
            inner = body(0)
            if chance.random() < 0.3:
                inner = (("put", "u", "a"), ("while", (("take", "a", "u"),) + inner + (("put", "u", chance.choice(names)),)), ("take", "b", "u"))
            params = tuple((one, "k") for one in names[:3])
            try:
                program = Program((("k", 60),), (("w", "k", 1),), (), (("p", params, ("a", "b"), (("get", "d", "w"),) + inner),))
                check_sound(program)
            except (InvalidProgram, Unfilled):
                continue
            done += 1
            told, = self.check(program, {})
            keeps, needs, took, rows, sours = AllChains(program, "p").life_type()
            expected = LifeType(keeps, needs, took, [LifeRow(left, lost) for left, lost in rows])
            self.assertEqual(told, LifeType.never(keeps, 2) if sours else expected)

    def test_one_name_handed_over_twice(self):
        callee = ("f", (("x", "k"), ("y", "k")), ("x", "z"), (("wait", 5), ("scale", "x", "x", 1), ("wait", 1), ("mix", "z", "+", "x", "y")))
        for args in (("a", "a"), ("a", "b"), ("b", "a")):
            body = (("wait", 2), ("scale", "b", "b", 1), ("call", "f", args, ("a", "b")))
            program = Program((("k", 30),), (), (), (callee, ("p", (("a", "k"), ("b", "k")), ("b", "a"), body)))
            types = {"f": LifeType((30, 30), (7, -1), 9, (LifeRow(12, (3, 20)), LifeRow(None, (9, 2))))}
            list(self.check(program, types))
            list(self.check(program, {"f": exact_type(program, "f")}))


class TimeTest(unittest.TestCase):
    """The longest input found takes no several times as long as it did when this was written, on any machine.

    Twenty exact types took 1.0 to 1.4 times as long as the reference then, and 7 to 11 times before they were put
    together stretch by stretch.
    """

    MOST = 4

    def test_what_it_gives(self):
        self.assertEqual(exact_type(LONG, "tq"), LifeType.never((19, 19, 20), 2))
        self.assertEqual(exact_type(LONG, "nq"), Chains(Plan(LONG, "nq"), {}).composed)

    def test_exact_types(self):
        for name, times in (("tq", 20), ("nq", 40)):
            self.assertLess(ratio(lambda: [exact_type(LONG, name) for _ in range(times)], 15), self.MOST)

    def test_stand_in(self):
        self.assertIsNone(stand_in(SIX, "tb", "tq"))
        self.assertLess(ratio(lambda: [stand_in(SIX, "tb", "tq") for _ in range(10)], 15), self.MOST)


if __name__ == "__main__":
    unittest.main()
