"""Places and edges of text and code, and the steps written out (points [10], [11], [13], [37])."""

import itertools
import random
import unittest

from drawing import code_of, draw_any, draw_code
from samples import DAIRY, FULL, KINDS, WELLS
from second import walked

from sourwright.code import CodeProgram
from sourwright.errors import UnknownName
from sourwright.flow import flow, steps, written_out
from sourwright.programs import Program

W = ("wait", 1)


def edges(*body):
    """The edges of a procedure with this body."""
    return flow(Program(KINDS, WELLS, (), (("p", (), (), body),))["p"])


class StepsTest(unittest.TestCase):
    def test_by_place(self):
        found = steps(DAIRY["make"])
        self.assertEqual(found, (
            ("if", (("get", "x", "cow"),), (("wait", 2),)), ("get", "x", "cow"), ("wait", 2), ("dish", "y", "press", "x"),
        ))
        self.assertIs(type(found), tuple)
        self.assertEqual(steps(procedure=FULL["none"]), ())
        for given in FULL.procedures:
            self.assertEqual(len(steps(FULL[given[0]])), len(FULL[given[0]]))

    def test_lists_passed_and_changed_later_change_nothing(self):
        procedures = [("p", (), (), (W, W))]
        program = Program(list(KINDS), list(WELLS), [], procedures)
        procedures[0] = ("p", (), (), ())
        self.assertEqual((steps(program["p"]), len(program["p"])), ((W, W), 2))

    def test_rows(self):
        rows = (("ask", 2), ("jump", 0), ("end", ()))
        code = CodeProgram(KINDS, (), (), (("p", (), rows),))
        self.assertEqual(steps(code["p"]), rows)
        self.assertEqual(flow(code["p"]), ((0, True, 1), (0, False, 2), (1, None, 0), (2, None, 3)))


class FlowTest(unittest.TestCase):
    def test_example(self):
        self.assertEqual(flow(DAIRY["make"]), ((0, True, 1), (0, False, 2), (1, None, 3), (2, None, 3), (3, None, 4)))

    def test_empty_and_straight(self):
        self.assertEqual(edges(), ())
        self.assertEqual(edges(W), ((0, None, 1),))
        self.assertEqual(edges(W, W), ((0, None, 1), (1, None, 2)))

    def test_empty_bodies(self):
        self.assertEqual(edges(("if", (), ())), ((0, True, 1), (0, False, 1)))
        self.assertEqual(edges(("if", (W,), ()), W), ((0, True, 1), (0, False, 2), (1, None, 2), (2, None, 3)))
        self.assertEqual(edges(("if", (), (W,))), ((0, True, 2), (0, False, 1), (1, None, 2)))
        self.assertEqual(edges(("while", ())), ((0, True, 0), (0, False, 1)))
        self.assertEqual(edges(("while", ()), W), ((0, True, 0), (0, False, 1), (1, None, 2)))

    def test_loops(self):
        self.assertEqual(edges(("while", (W, W))), ((0, True, 1), (0, False, 3), (1, None, 2), (2, None, 0)))
        # A while at the end of the body of a while, and at the end of the bodies of an if in one.
        self.assertEqual(
            edges(("while", (W, ("while", (W,))))),
            ((0, True, 1), (0, False, 4), (1, None, 2), (2, True, 3), (2, False, 0), (3, None, 2)),
        )
        self.assertEqual(
            edges(("while", (("if", (("while", ()),), (W,)),))),
            ((0, True, 1), (0, False, 4), (1, True, 2), (1, False, 3), (2, True, 2), (2, False, 0), (3, None, 0)),
        )

    def test_all_ways_of_drawn_bodies(self):
        chance = random.Random(5)
        for _ in range(150):
            program = draw_any(chance, procedures=1, size=14)
            one = program["p"]
            found = flow(one)
            self.check_order(found)
            seen = set()
            for many in range(7):
                for answers in itertools.product((True, False), repeat=many):
                    way = walked(one.body, answers) or []
                    seen.update((place, answer, goal) for (place, answer), (goal, _) in zip(way, way[1:]))
            self.assertTrue(seen <= set(found), (seen, found))
            asks = len([step for step in steps(one) if step[0] in ("if", "while")])
            if asks <= 3:
                self.assertEqual(seen, set(found))
            self.assertEqual(len(found), len(one) + asks)

    def check_order(self, found):
        self.assertIs(type(found), tuple)
        self.assertEqual(list(found), sorted(found, key=lambda edge: (edge[0], edge[1] is False)))

    def test_code(self):
        chance = random.Random(6)
        for _ in range(200):
            code = draw_code(chance)
            for given in code.procedures:
                expected = []
                for at, row in enumerate(given[2]):
                    goal = {"jump": row[-1], "end": len(given[2])}.get(row[0], at + 1)
                    if row[0] == "ask":
                        expected += [(at, True, at + 1), (at, False, row[1])]
                    else:
                        expected.append((at, None, goal))
                self.assertEqual(flow(procedure=code[given[0]]), tuple(expected))


class WrittenOutTest(unittest.TestCase):
    def test_counts(self):
        self.assertEqual([written_out(FULL, name) for name in ("make", "blend", "none", "many", "all")], [4, 1, 0, 1, 18])
        self.assertEqual(written_out(program=DAIRY, name="make"), 4)

    def test_calls_of_calls(self):
        made = [("p", (), (), (W, W, W))]
        names = ("q", "r", "u", "v", "x", "y")
        for elder, name in zip(("p",) + names, names):
            made.append((name, (), (), (("while", (("call", elder, (), ()),)), ("call", elder, (), ()), W)))
        program = Program(KINDS, (), (), made)
        count = 3
        for name in names:
            count = 4 + 2 * count
            self.assertEqual(written_out(program, name), count)

    def test_unsound(self):
        body = (("if", (("get", "x", "cow"),), ()), ("copy", "x", "x"))
        program = Program(KINDS, WELLS, (), (("p", (), (), body),))
        self.assertEqual(written_out(program, "p"), 3)

    def test_code(self):
        chance = random.Random(7)
        for _ in range(100):
            program = draw_any(chance)
            code = code_of(program)
            for name in ("p", "q", "r"):
                rows = code[name].rows
                expected = len(rows) + sum(written_out(code, row[1]) for row in rows if row[0] == "call")
                self.assertEqual(written_out(code, name), expected)

    def test_unknown(self):
        for program in (DAIRY, code_of(DAIRY)):
            for name in ("milk", "", "x"):
                with self.assertRaises(UnknownName) as caught:
                    written_out(program, name)
                self.assertEqual(caught.exception.name, name)


if __name__ == "__main__":
    unittest.main()
