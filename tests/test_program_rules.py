"""Promises 2 and 6: the rules for programs, their order, and what their errors tell."""

import itertools
import unittest

from samples import BLEND, DAIRY, DISHES, FULL, KINDS, MAKE, MANY, NONE, WELLS, nested, program_fault

from sourwright.errors import InvalidProgram
from sourwright.programs import Program

RESERVED = (
    "if", "else", "end", "while", "get", "mix", "scale", "dish", "copy", "wait", "put", "take", "call",
    "kind", "well", "part", "use",
)
NO_WORDS = RESERVED + ("", "sevenly", "A", "aB", "a1", "a_b", "a b", " a", "a ", "a\n", "-", "->", "x:y", "0")
WORDS = ("a", "sixsix", "ifs", "ends", "done", "kinds", "int", "z", "abcdef")
NO_NUMBERS = (True, False, None, "1", "", (), (1,))
NO_STEPS = (
    (), None, True, False, 0, 1, "", "wait", "get", (0,), (True,), (None,), ((),), ("",), ("end",), ("else",),
    ("wait",), ("wait", 1, 1), (("wait", 1),), ("Wait", 1), ("noop",), ["wait", 1], ("procedure", "p"),
)


def fault_of(*procedures):
    """The error of a program with the kinds, wells and dishes of the dairy, and one more kind and well."""
    kinds = KINDS + (("ice", 60),)
    wells = WELLS + (("shop", "ice", 9),)
    return program_fault(kinds, wells, DISHES, procedures)


def fault_of_steps(*body, params=(), results=()):
    """The error of a program that calls the procedures of the full one."""
    procedures = (MAKE, BLEND, NONE, MANY, ("p", params, results, body))
    return fault_of(*procedures)


class DeclaredTest(unittest.TestCase):
    def test_kind_names(self):
        for name in WORDS:
            self.assertIsNone(program_fault((("b", 1), (name, 1)), (), (), ()))
        for name in NO_WORDS + ("b",):
            self.assertEqual(program_fault((("b", 1), (name, 1)), (), (), ()), ("name", -1, 1))

    def test_keeps(self):
        for keep in (0, 1, 59, 60):
            self.assertIsNone(program_fault((("a", keep),), (), (), ()))
        for keep in (-1, 61, 9999, -60, 10 ** 29) + NO_NUMBERS:
            self.assertEqual(program_fault((("a", keep),), (), (), ()), ("keep", -1, 0))

    def test_kinds_in_order(self):
        self.assertEqual(program_fault((("a", 61), ("", 1)), (), (), ()), ("keep", -1, 0))
        self.assertEqual(program_fault((("", 61), ("", 1)), (), (), ()), ("name", -1, 0))
        self.assertEqual(program_fault((("a", 1), ("b", -1), ("a", 1)), (), (), ()), ("keep", -1, 1))
        self.assertEqual(program_fault((("a", 1), ("b", 0), ("a", 61)), (), (), ()), ("name", -1, 2))

    def test_no_kind(self):
        self.assertEqual(program_fault((), (), (), ()), ("kinds", -1, 0))
        bad = ("", (), (), ())
        self.assertEqual(program_fault((), (("", "milk", 0),), (("", "a", "b", 0),), (bad,)), ("kinds", -1, 0))

    def test_wells(self):
        for name in WORDS:
            self.assertIsNone(program_fault(KINDS, (("b", "milk", 1), (name, "curd", 1)), (), ()))
        for name in NO_WORDS + ("b",):
            self.assertEqual(program_fault(KINDS, (("b", "milk", 1), (name, "curd", 1)), (), ()), ("name", -1, 1))
        for kind in ("ice", "", "cow", "end", "MILK"):
            self.assertEqual(program_fault(KINDS, (("cow", kind, 1),), (), ()), ("kind", -1, 0))
        for ticks in (1, 9):
            self.assertIsNone(program_fault(KINDS, (("cow", "milk", ticks),), (), ()))
        for ticks in (0, 10, -1) + NO_NUMBERS:
            self.assertEqual(program_fault(KINDS, (("cow", "milk", ticks),), (), ()), ("ticks", -1, 0))

    def test_wells_in_order(self):
        self.assertEqual(program_fault(KINDS, (("a", "x", 0), ("", "x", 0)), (), ()), ("kind", -1, 0))
        self.assertEqual(program_fault(KINDS, (("", "x", 0), ("", "x", 0)), (), ()), ("name", -1, 0))
        self.assertEqual(program_fault(KINDS, (("a", "milk", 0), ("", "x", 0)), (), ()), ("ticks", -1, 0))
        self.assertEqual(program_fault((("a", 61),), (("", "x", 0),), (), ()), ("keep", -1, 0))

    def test_dishes(self):
        for name in WORDS + ("cow",):
            self.assertIsNone(program_fault(KINDS, WELLS, (("b", "milk", "curd", 1), (name, "curd", "milk", 9)), ()))
        for name in NO_WORDS + ("b",):
            dishes = (("b", "milk", "curd", 1), (name, "curd", "milk", 1))
            self.assertEqual(program_fault(KINDS, WELLS, dishes, ()), ("name", -1, 1))
        for needs, makes in (("ice", "milk"), ("milk", "ice"), ("cow", "cow"), ("", "")):
            self.assertEqual(program_fault(KINDS, WELLS, (("a", needs, makes, 1),), ()), ("kind", -1, 0))
        for ticks in (0, 10, -1) + NO_NUMBERS:
            self.assertEqual(program_fault(KINDS, WELLS, (("a", "milk", "curd", ticks),), ()), ("ticks", -1, 0))

    def test_dishes_in_order(self):
        self.assertEqual(program_fault(KINDS, (), (("", "x", "x", 0),), ()), ("name", -1, 0))
        self.assertEqual(program_fault(KINDS, (), (("a", "x", "x", 0),), ()), ("kind", -1, 0))
        self.assertEqual(program_fault(KINDS, (), (("a", "milk", "milk", 0), ("", "", "", 1)), ()), ("ticks", -1, 0))
        wells = WELLS + (("b", "milk", 10),)
        self.assertEqual(program_fault(KINDS, wells, (("", "x", "x", 0),), ()), ("ticks", -1, 1))
        self.assertEqual(program_fault(KINDS, WELLS, (("a", "", "", 0),), (("", (), (), ()),)), ("kind", -1, 0))

    def test_many(self):
        kinds = tuple((one * 3, at) for at, one in enumerate("abcdefghij"))
        wells = tuple((one, one * 3, 5) for one in "abcdefghij")
        dishes = tuple((one, "aaa", one * 3, 5) for one in "abcdefghij")
        procedures = tuple((one, (), (), ()) for one in "abcdefghij")
        self.assertEqual(len(Program(kinds, wells, dishes, procedures)), 10)


class HeadTest(unittest.TestCase):
    def test_names(self):
        for name in WORDS + ("milk", "cow", "press"):
            self.assertIsNone(fault_of(MAKE, (name, (), (), ())))
        for name in NO_WORDS + ("make",):
            self.assertEqual(fault_of(MAKE, (name, (), (), ())), ("name", 1, -1))

    def test_params(self):
        for name in WORDS + ("milk", "cow", "p"):
            self.assertIsNone(fault_of(("p", (("b", "ice"), (name, "milk")), (), ())))
        for name in NO_WORDS + ("b",):
            self.assertEqual(fault_of(("p", (("b", "ice"), (name, "milk")), (), ())), ("param", 0, -1))
        for kind in ("cow", "", "Milk", "end"):
            self.assertEqual(fault_of(("p", (("b", kind),), (), ())), ("param", 0, -1))

    def test_results(self):
        for name in NO_WORDS:
            self.assertEqual(fault_of(("p", (("b", "ice"),), ("b", name), ())), ("result", 0, -1))
        self.assertIsNone(fault_of(("p", (("b", "ice"),), ("b", "b", "b"), ())))

    def test_order(self):
        wrong = ("wait", 0)
        self.assertEqual(fault_of(("if", (("", ""),), ("",), (wrong,))), ("name", 0, -1))
        self.assertEqual(fault_of(("p", (("", ""),), ("",), (wrong,))), ("param", 0, -1))
        self.assertEqual(fault_of(("p", (("a", ""),), ("",), (wrong,))), ("param", 0, -1))
        self.assertEqual(fault_of(("p", (), ("",), (wrong,))), ("result", 0, -1))
        self.assertEqual(fault_of(("p", (), ("x",), (wrong,))), ("step", 0, 0))

    def test_one_procedure_after_another(self):
        last = ("", (("", ""),), ("",), (None,))
        for given, told in (
            (("p", (), (), (("wait", 0),)), ("step", 0, 0)),
            (("p", (), (), (("get", "x", "sea"),)), ("unknown", 0, 0)),
            (("p", (("x", "ice"),), (), (("put", "x", "x"),)), ("shelf", 0, -1)),
            (("p", (), (), (("copy", "x", "y"),)), ("kind", 0, 0)),
            (("p", (), ("x",), ()), ("result", 0, -1)),
        ):
            self.assertEqual(fault_of(given, last), told)
            self.assertEqual(fault_of(NONE, given, last), (told[0], 1, told[2]))


class StepTest(unittest.TestCase):
    def test_no_steps(self):
        for step in NO_STEPS:
            self.assertEqual(fault_of_steps(step), ("step", 4, 0), step)
            self.assertEqual(fault_of_steps(("wait", 1), ("if", (), (step,))), ("step", 4, 2), step)

    def test_all_forms(self):
        for procedure in FULL.procedures:
            self.assertIsNone(fault_of(*FULL.procedures[:FULL.procedures.index(procedure) + 1]))

    def test_lengths(self):
        params = (("x", "milk"),)
        steps = (
            ("get", "x", "cow"), ("mix", "x", "+", "x", "x"), ("scale", "x", "x", 1), ("dish", "q", "press", "x"),
            ("copy", "x", "x"), ("wait", 1), ("put", "s", "x"), ("if", (), ()), ("while", ()),
            ("call", "none", (), ()),
        )
        for step in steps:
            self.assertIsNone(fault_of_steps(step, params=params), step)
            self.assertEqual(fault_of_steps(step[:-1], params=params), ("step", 4, 0), step)
            for more in ("x", 1, ()):
                self.assertEqual(fault_of_steps(step + (more,), params=params), ("step", 4, 0), step)
        self.assertIsNone(fault_of_steps(("put", "s", "x"), ("take", "x", "s"), params=params))
        self.assertEqual(fault_of_steps(("put", "s", "x"), ("take", "x"), params=params), ("step", 4, 1))

    def test_names(self):
        patterns = (
            ("get", None, "cow"), ("mix", None, "+", "x", "x"), ("mix", "x", "+", None, "x"),
            ("mix", "x", "+", "x", None), ("scale", None, "x", 1), ("scale", "x", None, 1),
            ("dish", None, "press", "x"), ("dish", "q", "press", None), ("copy", None, "x"), ("copy", "x", None),
            ("put", None, "x"), ("put", "s", None), ("take", None, "s"), ("take", "x", None),
            ("call", "make", (None,), ("q",)), ("call", "make", ("x",), (None,)),
        )

        def filled(item, name):
            if item is None:
                return name
            return tuple(filled(one, name) for one in item) if isinstance(item, tuple) else item

        for pattern in patterns:
            for name in NO_WORDS + NO_NUMBERS + (["x"],):
                step = tuple(filled(item, name) for item in pattern)
                self.assertEqual(fault_of_steps(step, params=(("x", "milk"),)), ("step", 4, 0), step)

    def test_strings(self):
        for item in (0, True, None, (), ("cow",), ["cow"]):
            self.assertEqual(fault_of_steps(("get", "x", item)), ("step", 4, 0))
            self.assertEqual(fault_of_steps(("dish", "q", item, "x")), ("step", 4, 0))
            self.assertEqual(fault_of_steps(("call", item, (), ())), ("step", 4, 0))
        for item in ("", "end", "sevenly", "Cow", "c w", "milk", "p", "z"):
            self.assertEqual(fault_of_steps(("get", "x", item)), ("unknown", 4, 0))
            self.assertEqual(fault_of_steps(("dish", "q", item, "x")), ("unknown", 4, 0))
            self.assertEqual(fault_of_steps(("call", item, ("x",), ())), ("unknown", 4, 0))

    def test_wells_dishes_and_procedures_are_told_apart(self):
        self.assertEqual(fault_of_steps(("get", "x", "press")), ("unknown", 4, 0))
        self.assertEqual(fault_of_steps(("get", "x", "make")), ("unknown", 4, 0))
        self.assertEqual(fault_of_steps(("get", "x", "cow"), ("dish", "q", "cow", "x")), ("unknown", 4, 1))
        self.assertEqual(fault_of_steps(("call", "cow", (), ())), ("unknown", 4, 0))

    def test_signs(self):
        params = (("x", "milk"),)
        for sign in ("+", "-"):
            self.assertIsNone(fault_of_steps(("mix", "x", sign, "x", "x"), params=params))
        for sign in ("", "*", "+-", "x", 1, True, None, (), ["+"]):
            self.assertEqual(fault_of_steps(("mix", "x", sign, "x", "x"), params=params), ("step", 4, 0))

    def test_numbers(self):
        params = (("x", "milk"),)
        for number in (-9, -1, 0, 9):
            self.assertIsNone(fault_of_steps(("scale", "x", "x", number), params=params))
        for number in (-10, 10, 100, -(10 ** 29)) + NO_NUMBERS:
            self.assertEqual(fault_of_steps(("scale", "x", "x", number), params=params), ("step", 4, 0))
        for number in (1, 2, 59, 60):
            self.assertIsNone(fault_of_steps(("wait", number)))
        for number in (0, -1, 61, 10 ** 29) + NO_NUMBERS:
            self.assertEqual(fault_of_steps(("wait", number)), ("step", 4, 0))

    def test_bodies_are_tuples(self):
        for body in (None, "", "wait", 0, True, [], [("wait", 1)]):
            self.assertEqual(fault_of_steps(("if", body, ())), ("step", 4, 0))
            self.assertEqual(fault_of_steps(("if", (), body)), ("step", 4, 0))
            self.assertEqual(fault_of_steps(("while", body)), ("step", 4, 0))
        for names in (None, "", "x", 0, True, [], ["x"]):
            self.assertEqual(fault_of_steps(("call", "none", names, ())), ("step", 4, 0))
            self.assertEqual(fault_of_steps(("call", "none", (), names)), ("step", 4, 0))
        # What stands in a body is told with its own place.
        self.assertEqual(fault_of_steps(("while", ("wait", 1))), ("step", 4, 1))
        self.assertEqual(fault_of_steps(("if", (("wait", 1),), (1,))), ("step", 4, 2))

    def test_counts(self):
        params = (("x", "milk"),)
        for step in (
            ("call", "make", (), ("q",)), ("call", "make", ("x", "x"), ("q",)), ("call", "make", ("x",), ()),
            ("call", "make", ("x",), ("q", "r")), ("call", "none", ("x",), ()), ("call", "none", (), ("x",)),
            ("call", "many", (), ("x", "x")), ("call", "many", (), ("y",)),
        ):
            self.assertEqual(fault_of_steps(("wait", 1), step, params=params), ("count", 4, 1), step)
        self.assertIsNone(fault_of_steps(("call", "many", (), ("x", "y")), params=params))
        self.assertIsNone(fault_of_steps(("call", "blend", ("x", "x"), ("x",)), params=params))

    def test_only_procedures_before_are_known(self):
        call = ("call", "p", (), ())
        self.assertEqual(fault_of(("p", (), (), (call,))), ("unknown", 0, 0))
        self.assertEqual(fault_of(("q", (), (), (call,)), ("p", (), (), ())), ("unknown", 0, 0))
        self.assertIsNone(fault_of(("p", (), (), ()), ("q", (), (), (call,)), ("r", (), (), (call,))))

    def test_places(self):
        good = ("wait", 1)
        body = (good, ("if", (good, ("while", (good, good))), (good, good)), ("while", (good,)), good)
        self.assertEqual(len(Program(KINDS, (), (), (("p", (), (), body),))["p"]), 11)

        def broken(steps, at):
            found = []
            for step in steps:
                if at == 0:
                    found.append(("wait", 0) if step == good else step + ((),))
                elif step[0] == "while":
                    found.append(("while", broken(step[1], at - 1)))
                elif step[0] == "if":
                    yes = broken(step[1], at - 1)
                    found.append(("if", yes, broken(step[2], at - 1 - size(step[1]))))
                else:
                    found.append(step)
                at -= size((step,))
            return tuple(found)

        def size(steps):
            return sum(1 + sum(size(inner) for inner in step[1:] if isinstance(inner, tuple)) for step in steps)

        self.assertEqual(size(body), 11)
        for first in range(11):
            self.assertEqual(fault_of(("p", (), (), broken(body, first))), ("step", 0, first))
        for first, second in itertools.combinations((0, 2, 4, 5, 6, 7, 9, 10), 2):
            both = broken(broken(body, second), first)
            self.assertEqual(fault_of(("p", (), (), both)), ("step", 0, first))

    def test_each_step_by_itself_in_order(self):
        step, unknown, count = ("wait", 0), ("get", "x", "sea"), ("call", "none", (), ("x",))
        told = {step: "step", unknown: "unknown", count: "count"}
        for pair in itertools.permutations((step, unknown, count), 2):
            self.assertEqual(fault_of_steps(*pair), (told[pair[0]], 4, 0))
            self.assertEqual(fault_of_steps(("while", pair[:1]), pair[1]), (told[pair[0]], 4, 1))
            self.assertEqual(fault_of_steps(("wait", 1), ("if", (), pair)), (told[pair[0]], 4, 2))
        # Within one step: its form, then what it names, then how many.
        self.assertEqual(fault_of_steps(("call", "sea", ("x", "x"), ("y", "Y"))), ("step", 4, 0))
        self.assertEqual(fault_of_steps(("call", "sea", ("x", "x"), ("y", "y"))), ("unknown", 4, 0))

    def test_forms_come_before_kinds(self):
        self.assertEqual(fault_of_steps(("copy", "x", "y"), ("wait", 0)), ("step", 4, 1))
        self.assertEqual(fault_of_steps(("put", "x", "x"), ("get", "x", "sea")), ("unknown", 4, 1))
        self.assertEqual(fault_of_steps(("put", "x", "x"), ("call", "none", (), ("x",)), results=("y",)), ("count", 4, 1))


class DepthTest(unittest.TestCase):
    def test_eight_bodies(self):
        for bodies in range(1, 9):
            self.assertIsNone(fault_of(("p", (), (), nested(bodies))))

    def test_nine_bodies_and_more(self):
        for bodies in (9, 10, 12, 100, 200):
            self.assertEqual(fault_of(("p", (), (), nested(bodies))), ("step", 0, 8))

    def test_ifs_count_like_whiles(self):
        inner = ("if", (), ())
        for bodies in range(7):
            inner = ("if", (("wait", 1),), (inner,)) if bodies < 4 else ("while", (inner, ("wait", 1)))
        self.assertIsNone(fault_of(("p", (), (), (inner,))))
        self.assertEqual(fault_of(("p", (), (), (("if", (), (inner,)),))), ("step", 0, 12))
        self.assertEqual(fault_of(("p", (), (), (("wait", 1), ("if", (inner,), ()), None))), ("step", 0, 13))

    def test_other_steps_within_eight_bodies(self):
        body = nested(8)
        for step in (("wait", 1), ("get", "x", "cow"), ("call", "none", (), ())):
            body = (step,)
            for _ in range(8):
                body = (("while", body),)
            self.assertIsNone(fault_of(NONE, ("p", (), (), body)))

    def test_first_fault_wins(self):
        body = (("wait", 0),) + nested(9)
        self.assertEqual(fault_of(("p", (), (), body)), ("step", 0, 0))
        self.assertEqual(fault_of(("p", (), (), nested(9) + (("wait", 0),))), ("step", 0, 8))
        self.assertEqual(fault_of(("p", (), (), nested(8) + (("wait", 0),))), ("step", 0, 8))


class ShelfTest(unittest.TestCase):
    def test_names_are_no_shelves(self):
        milk = (("x", "milk"),)
        for body, results in (
            ((("put", "x", "x"),), ()),
            ((("put", "s", "x"), ("get", "s", "cow")), ()),
            ((("get", "s", "cow"), ("put", "s", "x")), ()),
            ((("put", "s", "x"), ("take", "s", "s")), ()),
            ((("put", "s", "x"),), ("s",)),
            ((("put", "s", "x"), ("call", "none", (), ()), ("call", "make", ("x",), ("s",))), ()),
            ((("put", "s", "x"), ("call", "make", ("s",), ("y",))), ()),
            ((("put", "s", "x"), ("mix", "z", "+", "x", "s")), ()),
            ((("put", "s", "x"), ("mix", "z", "+", "s", "x")), ()),
            ((("put", "s", "x"), ("scale", "s", "x", 1)), ()),
            ((("put", "s", "x"), ("dish", "y", "press", "s")), ()),
            ((("put", "s", "x"), ("copy", "y", "s")), ()),
            ((("put", "s", "x"), ("put", "t", "s")), ()),
            ((("while", (("take", "x", "s"),)), ("if", (), (("copy", "s", "x"),))), ()),
            ((("take", "y", "x"),), ()),
        ):
            self.assertEqual(fault_of_steps(*body, params=milk, results=results), ("shelf", 4, -1), body)

    def test_shelf_comes_before_kind(self):
        self.assertEqual(fault_of_steps(("copy", "x", "y"), ("put", "y", "x")), ("shelf", 4, -1))
        self.assertEqual(fault_of_steps(("put", "s", "y"), results=("s",)), ("shelf", 4, -1))

    def test_wells_and_procedures_are_no_names(self):
        self.assertIsNone(fault_of_steps(("get", "x", "cow"), ("put", "cow", "x"), ("take", "make", "cow")))


class KindTest(unittest.TestCase):
    PARAMS = (("m", "milk"), ("c", "curd"), ("i", "ice"))

    def check(self, told, *body, results=()):
        self.assertEqual(fault_of_steps(*body, params=self.PARAMS, results=results), told, body)

    def test_no_kind_yet(self):
        for step in (
            ("mix", "z", "+", "m", "x"), ("mix", "z", "+", "x", "m"), ("mix", "x", "+", "x", "x"),
            ("scale", "x", "x", 1), ("dish", "c", "press", "x"), ("copy", "x", "x"), ("copy", "z", "x"),
            ("put", "s", "x"), ("take", "x", "s"), ("call", "make", ("x",), ("c",)),
            ("call", "blend", ("m", "x"), ("m",)),
        ):
            self.check(("kind", 4, 0), step, ("get", "x", "cow"))
            self.check(("kind", 4, 1), ("wait", 1), step)
            if step[0] != "take":
                self.check(None, ("get", "x", "cow"), step)

    def test_operands_of_the_wrong_kind(self):
        for step in (
            ("mix", "z", "+", "m", "c"), ("mix", "z", "-", "c", "m"), ("dish", "c", "press", "c"),
            ("dish", "c", "press", "i"), ("call", "make", ("c",), ("c",)), ("call", "blend", ("m", "c"), ("m",)),
            ("call", "blend", ("i", "m"), ("m",)),
        ):
            self.check(("kind", 4, 0), step)

    def test_results_of_another_kind(self):
        for step in (
            ("get", "c", "cow"), ("get", "m", "shop"), ("mix", "c", "+", "m", "m"), ("scale", "i", "m", 1),
            ("dish", "m", "press", "m"), ("copy", "c", "m"), ("call", "make", ("m",), ("m",)),
            ("call", "many", (), ("m", "c")), ("call", "many", (), ("c", "m")),
        ):
            self.check(("kind", 4, 0), step)
            self.check(("kind", 4, 2), ("if", (("wait", 1),), (step,)))

    def test_shelves_keep_their_kinds(self):
        self.check(None, ("put", "s", "m"), ("take", "x", "s"), ("put", "s", "x"), ("copy", "m", "x"))
        self.check(("kind", 4, 1), ("put", "s", "m"), ("put", "s", "c"))
        self.check(("kind", 4, 1), ("put", "s", "m"), ("take", "c", "s"))
        self.check(("kind", 4, 2), ("put", "s", "m"), ("take", "x", "s"), ("copy", "c", "x"))

    def test_kinds_come_by_places_whatever_ways_there_are(self):
        self.check(None, ("if", (("get", "x", "cow"),), (("copy", "m", "x"),)))
        self.check(("kind", 4, 1), ("if", (("copy", "m", "x"),), (("get", "x", "cow"),)))
        self.check(("kind", 4, 2), ("if", (("get", "x", "cow"),), (("get", "x", "shop"),)))
        self.check(("kind", 4, 1), ("while", (("copy", "m", "x"), ("get", "x", "cow"))))
        self.check(None, ("while", (("while", (("put", "s", "m"),)),)), ("take", "m", "s"))

    def test_the_first_place_counts(self):
        self.check(("kind", 4, 1), ("get", "x", "cow"), ("copy", "c", "x"), ("copy", "i", "x"), results=("y",))
        self.check(("kind", 4, 0), ("copy", "y", "x"), ("get", "c", "cow"))

    def test_results_have_kinds(self):
        self.check(None, ("get", "x", "cow"), results=("x", "m", "x"))
        self.check(("result", 4, -1), ("get", "x", "cow"), results=("x", "y"))
        self.check(("result", 4, -1), results=("x",))
        self.check(None, ("while", (("get", "x", "cow"),)), results=("x",))

    def test_kinds_of_calls(self):
        self.check(None, ("call", "make", ("m",), ("x",)), ("copy", "c", "x"))
        self.check(("kind", 4, 1), ("call", "make", ("m",), ("x",)), ("copy", "m", "x"))
        self.check(None, ("call", "many", (), ("x", "y")), ("mix", "m", "+", "x", "y"))


class ValuesTest(unittest.TestCase):
    def test_error_keeps_the_program_unchanged(self):
        procedures = [MAKE, ("p", (), (), (("wait", 0),))]
        with self.assertRaises(InvalidProgram):
            Program(KINDS, WELLS, DISHES, procedures)
        self.assertEqual(procedures, [MAKE, ("p", (), (), (("wait", 0),))])
        self.assertEqual(DAIRY, Program(KINDS, WELLS, DISHES, (MAKE, BLEND)))

    def test_same_fault_again(self):
        given = (("p", (), (), (("while", (("wait", True),)),)),)
        self.assertEqual([fault_of(*given) for _ in range(3)], [("step", 0, 1)] * 3)


if __name__ == "__main__":
    unittest.main()
