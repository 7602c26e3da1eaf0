"""What single steps and rows work on, and the order of places."""

import unittest

from samples import FULL

from sourwright.flow import steps
from sourwright.programs import Program
from sourwright.steps import inner_bodies, operands_of, results_of

# For each step: its operands, its results.
TOLD = {
    ("get", "z", "w"): ((), ("z",)),
    ("mix", "z", "+", "x", "y"): (("x", "y"), ("z",)),
    ("scale", "z", "x", 2): (("x",), ("z",)),
    ("dish", "z", "d", "x"): (("x",), ("z",)),
    ("copy", "z", "x"): (("x",), ("z",)),
    ("wait", 2): ((), ()),
    ("put", "s", "x"): (("x",), ("s",)),
    ("take", "z", "s"): (("s",), ("z",)),
    ("if", (("wait", 1),), ()): ((), ()),
    ("while", (("wait", 1),)): ((), ()),
    ("call", "p", ("x", "x"), ("y", "z")): (("x", "x"), ("y", "z")),
    ("call", "p", (), ()): ((), ()),
    ("ask",): ((), ()),
    ("jump",): ((), ()),
    ("end", ("c0", "c0"), ("r0", "r1")): (("c0", "c0"), ("r0", "r1")),
}


class StepsTest(unittest.TestCase):
    def test_what_steps_work_on(self):
        for step, told in TOLD.items():
            self.assertEqual((operands_of(step), results_of(step)), told)

    def test_what_rows_work_on(self):
        self.assertEqual((operands_of(("get", 3, "w", 7)), results_of(("get", 3, "w", 7))), ((), (3,)))
        self.assertEqual((operands_of(("mix", 3, "-", 1, 2)), results_of(("mix", 3, "-", 1, 2))), ((1, 2), (3,)))
        self.assertEqual((operands_of(("take", 3, 1)), results_of(("take", 3, 1))), ((1,), (3,)))
        self.assertEqual(operands_of(("call", "p", (1, 0), (2,))), (1, 0))

    def test_places(self):
        body = (("if", (("wait", 1), ("while", (("wait", 2),))), (("wait", 3),)), ("while", ()), ("wait", 4))
        program = Program((("k", 1),), (), (), (("p", (), (), body), ("q", (), (), ())))
        self.assertEqual(
            [step[-1] if step[0] == "wait" else step[0] for step in steps(program["p"])],
            ["if", 1, "while", 2, 3, "while", 4],
        )
        self.assertEqual(steps(program["q"]), ())
        self.assertEqual(len(steps(FULL["all"])), len(FULL["all"]))

    def test_inner_bodies(self):
        yes, no = (("wait", 1),), (("wait", 2),)
        self.assertEqual(inner_bodies(("if", yes, no)), (yes, no))
        self.assertEqual(inner_bodies(("while", yes)), (yes,))
        self.assertEqual(inner_bodies(("wait", 1)), ())


if __name__ == "__main__":
    unittest.main()
