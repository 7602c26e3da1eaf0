"""Promise 8: the rules for code, their order, and what their errors tell."""

import itertools
import unittest

from samples import DISHES, KINDS, WELLS, code_fault

ONE = ("one", ("milk",), (("end", (0, 0)),))
NONE = ("none", (), (("end", ()),))
END = ("end", ())
NO_NUMBERS = (True, False, None, "1", "", (), (1,), [1])


def fault_of(*procedures):
    """The error of a code program with these procedures."""
    return code_fault(KINDS, WELLS, DISHES, procedures)


def fault_of_rows(*rows, params=()):
    """The error of a code program whose last procedure has these rows."""
    return fault_of(ONE, NONE, ("p", params, rows))


class DeclaredTest(unittest.TestCase):
    BAD = ("", ("sea",), ())

    def test_kinds_wells_and_dishes_come_first(self):
        for kinds, wells, dishes, told in (
            ((), (), (), ("kinds", -1, 0)),
            ((("end", 1),), (), (), ("name", -1, 0)),
            ((("a", 1), ("a", 61)), (), (), ("name", -1, 1)),
            ((("a", 61),), (("", "a", 1),), (), ("keep", -1, 0)),
            ((("a", True),), (), (), ("keep", -1, 0)),
            ((("a", 1),), (("w", "a", 1), ("w", "b", 0)), (), ("name", -1, 1)),
            ((("a", 1),), (("w", "b", 0),), (), ("kind", -1, 0)),
            ((("a", 1),), (("w", "a", 10),), (("", "a", "a", 1),), ("ticks", -1, 0)),
            ((("a", 1),), (), (("d", "a", "b", 0),), ("kind", -1, 0)),
            ((("a", 1),), (), (("d", "a", "a", 1), ("d", "a", "a", 1)), ("name", -1, 1)),
            ((("a", 1),), (), (("d", "a", "a", 0),), ("ticks", -1, 0)),
        ):
            self.assertEqual(code_fault(kinds, wells, dishes, (self.BAD,)), ("program",) + told)
            self.assertEqual(code_fault(kinds, wells, dishes, ()), ("program",) + told)


class HeadTest(unittest.TestCase):
    def test_names(self):
        for name in ("", "end", "sevenly", "A", "a b", "one", "c0"):
            self.assertEqual(fault_of(ONE, (name, (), (END,))), ("name", 1, -1))
        for name in ("a", "sixsix", "milk", "cow"):
            self.assertIsNone(fault_of(ONE, (name, (), (END,))))

    def test_kinds(self):
        for kind in ("sea", "", "cow", "end"):
            self.assertEqual(fault_of(("p", ("milk", kind), (END,))), ("kind", 0, -1))
        self.assertIsNone(fault_of(("p", ("milk", "curd", "milk"), (END,))))

    def test_no_rows(self):
        self.assertEqual(fault_of(("p", (), ())), ("rows", 0, -1))

    def test_order(self):
        self.assertEqual(fault_of(("if", ("sea",), ())), ("name", 0, -1))
        self.assertEqual(fault_of(("p", ("sea",), ())), ("kind", 0, -1))
        self.assertEqual(fault_of(("p", ("sea",), (None,))), ("kind", 0, -1))

    def test_one_procedure_after_another(self):
        last = ("", ("sea",), ())
        for rows, told in (
            ((), ("rows", -1)), ((("wait", 0),), ("row", 0)), ((("get", 0, "sea", 0),), ("unknown", 0)),
            ((("call", "one", (), ()),), ("count", 0)), ((("wait", 1),), ("target", 0)),
            ((("ask", 2), END, ("end", (0,))), ("end", 2)), ((("jump", 0),), ("end", -1)),
            ((END, END), ("astray", 1)),
        ):
            self.assertEqual(fault_of(ONE, ("p", (), rows), last), (told[0], 1, told[1]))


class RowTest(unittest.TestCase):
    GOOD = (
        ("get", 0, "cow", 0), ("mix", 0, "+", 0, 0), ("mix", 0, "-", 0, 0), ("scale", 0, 0, 0), ("dish", 0, "press", 0),
        ("copy", 0, 0), ("wait", 1), ("put", 0, 0), ("take", 0, 0), ("call", "none", (), ()),
        ("call", "one", (0,), (1, 2)),
    )

    def check(self, told, row):
        """The row alone, ahead of an end, and behind a row that is right."""
        if told is None:
            self.assertIsNone(fault_of_rows(row, END), row)
            self.assertIsNone(fault_of_rows(("wait", 1), row, END), row)
        else:
            self.assertEqual(fault_of_rows(row), (told, 2, 0), row)
            self.assertEqual(fault_of_rows(row, END), (told, 2, 0), row)
            self.assertEqual(fault_of_rows(("wait", 1), row, END), (told, 2, 1), row)

    def test_right_rows(self):
        for row in self.GOOD:
            self.check(None, row)

    def test_no_rows(self):
        for row in (
            None, True, 0, "", "end", "wait", (), ((),), ("",), (0,), (None,), ["wait", 1], ["end", ()], ("if", (), ()),
            ("while", ()), ("Wait", 1), (("wait", 1),), ("noop",), (["wait"], 1),
        ):
            self.check("row", row)

    def test_lengths(self):
        for row in self.GOOD + (("ask", 0), ("jump", 0), ("end", ())):
            self.check("row", row[:-1])
            for more in (0, (), "x"):
                self.check("row", row + (more,))

    def test_cups_and_cold_places(self):
        for pattern in (
            ("get", None, "cow", 0), ("mix", None, "+", 0, 0), ("mix", 0, "+", None, 0), ("mix", 0, "+", 0, None),
            ("scale", None, 0, 1), ("scale", 0, None, 1), ("dish", None, "press", 0), ("dish", 0, "press", None),
            ("copy", None, 0), ("copy", 0, None), ("put", None, 0), ("put", 0, None), ("take", None, 0),
            ("take", 0, None),
        ):
            for spot in (0, 1, 15):
                self.check(None, tuple(spot if item is None else item for item in pattern))
            for spot in (-1, 16, 10 ** 29, "c0", "x") + NO_NUMBERS:
                self.check("row", tuple(spot if item is None else item for item in pattern))

    def test_tuples_of_cups(self):
        for cups in (None, 0, True, "", "c", [], [0], (16,), (-1,), (True,), ("c0",), (0, 16), ((0,),), (None,)):
            self.check("row", ("call", "one", cups, (0, 1)))
            self.check("row", ("call", "one", (0,), cups))
            self.check("row", ("end", cups))
        self.check(None, ("call", "one", (15,), (15, 0)))
        self.assertIsNone(fault_of_rows(("end", (15, 0, 0, 15))))

    def test_numbers(self):
        for number in (-9, 0, 9):
            self.check(None, ("scale", 0, 0, number))
        for number in (-10, 10) + NO_NUMBERS:
            self.check("row", ("scale", 0, 0, number))
        for number in (1, 60):
            self.check(None, ("wait", number))
        for number in (0, 61, -1) + NO_NUMBERS:
            self.check("row", ("wait", number))
        for place in (0, 1, 60, 10 ** 29):
            self.check(None, ("get", 0, "cow", place))
        for place in (-1, -(10 ** 29)) + NO_NUMBERS:
            self.check("row", ("get", 0, "cow", place))
        for target in NO_NUMBERS:
            self.check("row", ("ask", target))
            self.check("row", ("jump", target))

    def test_signs(self):
        for sign in ("", "*", "++", 1, True, None, (), ["+"]):
            self.check("row", ("mix", 0, sign, 0, 0))

    def test_strings(self):
        for item in (0, True, None, (), ["cow"]):
            self.check("row", ("get", 0, item, 0))
            self.check("row", ("dish", 0, item, 0))
            self.check("row", ("call", item, (), ()))
        for item in ("", "end", "sevenly", "C w", "milk", "p", "later"):
            self.check("unknown", ("get", 0, item, 0))
            self.check("unknown", ("dish", 0, item, 0))
            self.check("unknown", ("call", item, (), ()))
        self.check("unknown", ("get", 0, "press", 0))
        self.check("unknown", ("dish", 0, "cow", 0))
        self.check("unknown", ("call", "cow", (), ()))

    def test_only_procedures_before_are_known(self):
        call = ("call", "p", (), ())
        self.assertEqual(fault_of(("p", (), (call, END))), ("unknown", 0, 0))
        self.assertEqual(fault_of(("q", (), (call, END)), ("p", (), (END,))), ("unknown", 0, 0))
        self.assertIsNone(fault_of(("p", (), (END,)), ("q", (), (call, END))))

    def test_counts(self):
        for args, results in (
            ((), (0, 1)), ((0, 0), (0, 1)), ((0,), ()), ((0,), (0,)), ((0,), (0, 1, 2)), ((0,), (1, 1)),
        ):
            self.check("count", ("call", "one", args, results))
        self.check("count", ("call", "none", (0,), ()))
        self.check("count", ("call", "none", (), (0,)))
        # The ends of a procedure tell how many results it has, whatever its cups are.
        two = ("two", (), (("ask", 2), ("end", (3, 3)), ("end", (4, 5))))
        call = ("call", "two", (), (8, 7))
        self.assertIsNone(fault_of(two, ("p", (), (call, END))))
        self.assertEqual(fault_of(two, ("p", (), (("call", "two", (), (8,)), END))), ("count", 1, 0))

    def test_targets(self):
        for word in ("ask", "jump"):
            for target in (-1, 3, 4, -3, 10 ** 29, -(10 ** 29)):
                self.assertEqual(fault_of_rows(("wait", 1), (word, target), END), ("target", 2, 1))
                self.assertEqual(fault_of_rows((word, target), ("wait", 1), END), ("target", 2, 0))
        self.assertIsNone(fault_of_rows(("ask", 0), ("ask", 1), ("ask", 3), END))
        self.assertIsNone(fault_of_rows(("jump", 2), END, ("jump", 1)))

    def test_the_last_row(self):
        for row in self.GOOD + (("ask", 0), ("ask", 1), ("ask", 9)):
            self.assertEqual(fault_of_rows(END, row), ("target", 2, 1))
            self.assertEqual(fault_of_rows(row), ("target", 2, 0))
        self.assertIsNone(fault_of_rows(("jump", 2), END, ("jump", 1)))

    def test_ends_with_other_numbers_of_cups(self):
        self.assertEqual(fault_of_rows(("ask", 2), ("end", (0,)), ("end", ())), ("end", 2, 2))
        self.assertEqual(fault_of_rows(("ask", 2), ("end", ()), ("end", (0,))), ("end", 2, 2))
        rows = (("ask", 2), ("end", (0,)), ("ask", 4), ("end", (1,)), ("end", (0, 0)))
        self.assertEqual(fault_of_rows(*rows), ("end", 2, 4))
        self.assertIsNone(fault_of_rows(*rows[:4], ("end", (2,))))
        self.assertEqual(fault_of_rows(("ask", 2), ("end", (0,)), None), ("row", 2, 2))

    def test_each_row_by_itself_in_order(self):
        told = {
            ("wait", 0): "row", ("get", 0, "sea", 0): "unknown", ("call", "one", (), ()): "count",
            ("jump", 9): "target", ("end", (0,)): "end",
        }
        for pair in itertools.permutations(told, 2):
            self.assertEqual(fault_of_rows(("ask", 2), END, *pair, END), (told[pair[0]], 2, 2))
        # Within one row: its form, then what it names, then how many, then where it goes.
        self.assertEqual(fault_of_rows(("call", "sea", (16,), (1, 1))), ("row", 2, 0))
        self.assertEqual(fault_of_rows(("call", "sea", (0,), (1, 1))), ("unknown", 2, 0))
        self.assertEqual(fault_of_rows(("call", "one", (0,), (1, 1))), ("count", 2, 0))
        self.assertEqual(fault_of_rows(("call", "one", (0,), (1, 2))), ("target", 2, 0))


class WaysTest(unittest.TestCase):
    def test_no_end(self):
        self.assertEqual(fault_of_rows(("jump", 0)), ("end", 2, -1))
        self.assertEqual(fault_of_rows(("wait", 1), ("jump", 0), ("wait", 1), ("jump", 2)), ("end", 2, -1))
        self.assertEqual(fault_of_rows(("ask", 0), ("jump", 0)), ("end", 2, -1))

    def test_rows_that_cannot_be_reached(self):
        self.assertEqual(fault_of_rows(END, END), ("astray", 2, 1))
        self.assertEqual(fault_of_rows(("jump", 2), ("wait", 1), END), ("astray", 2, 1))
        self.assertEqual(fault_of_rows(("jump", 3), ("wait", 1), ("jump", 1), END), ("astray", 2, 1))
        self.assertEqual(fault_of_rows(END, ("jump", 0)), ("astray", 2, 1))
        self.assertEqual(fault_of_rows(("ask", 3), ("wait", 1), ("jump", 4), ("wait", 2), END, END), ("astray", 2, 5))

    def test_rows_that_reach_no_end(self):
        self.assertEqual(fault_of_rows(("ask", 2), END, ("jump", 2)), ("astray", 2, 2))
        self.assertEqual(fault_of_rows(("ask", 2), END, ("wait", 1), ("wait", 1), ("jump", 2)), ("astray", 2, 2))
        self.assertEqual(fault_of_rows(("ask", 2), ("jump", 1), END), ("astray", 2, 1))
        self.assertEqual(fault_of_rows(("jump", 0), END), ("astray", 2, 0))

    def test_the_first_row_astray(self):
        # Row 1 reaches no end, row 3 cannot be reached; and the other way round.
        self.assertEqual(fault_of_rows(("ask", 2), ("jump", 1), END, END), ("astray", 2, 1))
        self.assertEqual(fault_of_rows(("jump", 2), END, ("ask", 4), END, ("jump", 4)), ("astray", 2, 1))

    def test_ways_in_circles(self):
        self.assertIsNone(fault_of_rows(("ask", 2), ("jump", 0), END))
        self.assertIsNone(fault_of_rows(("jump", 3), ("wait", 1), END, ("ask", 2), ("jump", 1)))
        self.assertIsNone(fault_of_rows(("ask", 3), ("ask", 0), ("jump", 1), END))

    def test_hundred_rows(self):
        rows = tuple(("wait", 1) for _ in range(98))
        self.assertIsNone(fault_of_rows(*rows, ("ask", 0), END))
        self.assertEqual(fault_of_rows(*rows, ("jump", 50), END), ("astray", 2, 0))

    def test_ends_come_before_ways(self):
        self.assertEqual(fault_of_rows(("jump", 1), ("jump", 0), ("jump", 2)), ("end", 2, -1))
        self.assertEqual(fault_of_rows(END, ("wait", 1), ("end", (0,))), ("end", 2, 2))


if __name__ == "__main__":
    unittest.main()
