"""Promises 3 and 9: what programs and procedures tell, and with_procedure."""

import unittest

from samples import ALL_FORMS, BLEND, DAIRY, DISHES, FULL, KINDS, MAKE, MANY, NONE, WELLS

from sourwright.errors import InvalidProgram, UnknownName
from sourwright.programs import Book, Procedure, Program


class ProgramTest(unittest.TestCase):
    def test_example(self):
        self.assertEqual((len(DAIRY), "blend" in DAIRY, DAIRY["make"].kind_of("y")), (2, True, "curd"))

    def test_parts(self):
        self.assertEqual(DAIRY.kinds, KINDS)
        self.assertEqual(DAIRY.wells, WELLS)
        self.assertEqual(DAIRY.dishes, DISHES)
        self.assertEqual(DAIRY.procedures, (MAKE, BLEND))
        self.assertIsInstance(DAIRY, Book)

    def test_by_keyword(self):
        program = Program(procedures=(MAKE, BLEND), dishes=DISHES, wells=WELLS, kinds=KINDS)
        self.assertEqual(program, DAIRY)
        self.assertEqual(program.keep_of(kind="curd"), 20)
        self.assertEqual(program.ticks_of(name="cow"), 2)
        self.assertEqual(program["make"].kind_of(carrier="x"), "milk")

    def test_least_program(self):
        program = Program((("m", 0),), (), (), ())
        self.assertEqual((len(program), program.procedures, repr(program)), (0, (), "Program(1, 0)"))
        self.assertNotIn("m", program)

    def test_in_and_item(self):
        self.assertIn("make", DAIRY)
        self.assertNotIn("milk", DAIRY)
        self.assertNotIn("cow", DAIRY)
        self.assertNotIn("", DAIRY)
        self.assertIsInstance(DAIRY["make"], Procedure)
        for name in ("milk", "cow", "press", "x", "", "MAKE"):
            with self.assertRaises(UnknownName) as caught:
                DAIRY[name]
            self.assertEqual(caught.exception.name, name)

    def test_keep_of(self):
        self.assertEqual((DAIRY.keep_of("milk"), DAIRY.keep_of("curd")), (8, 20))
        for name in ("cow", "press", "make", "x", ""):
            with self.assertRaises(UnknownName) as caught:
                DAIRY.keep_of(name)
            self.assertEqual(caught.exception.name, name)

    def test_ticks_of(self):
        self.assertEqual((DAIRY.ticks_of("cow"), DAIRY.ticks_of("press")), (2, 3))
        both = Program(KINDS, (("b", "milk", 4), ("a", "milk", 9)), (("a", "milk", "milk", 1),), ())
        self.assertEqual((both.ticks_of("a"), both.ticks_of("b")), (9, 4))
        for name in ("milk", "make", "x", ""):
            with self.assertRaises(UnknownName) as caught:
                DAIRY.ticks_of(name)
            self.assertEqual(caught.exception.name, name)

    def test_separate_names(self):
        # The same name for a kind, a well, a dish, a procedure and a value.
        one = ("a", (("a", "a"),), ("a",), (("get", "a", "a"), ("dish", "a", "a", "a")))
        program = Program((("a", 5),), (("a", "a", 3),), (("a", "a", "a", 7),), (one,))
        self.assertEqual((program.keep_of("a"), program.ticks_of("a"), program["a"].kind_of("a")), (5, 3, "a"))

    def test_repr(self):
        self.assertEqual((repr(DAIRY), repr(FULL)), ("Program(2, 2)", "Program(2, 5)"))

    def test_equality(self):
        self.assertEqual(DAIRY, Program(KINDS, WELLS, DISHES, (MAKE, BLEND)))
        self.assertFalse(DAIRY != Program(KINDS, WELLS, DISHES, (MAKE, BLEND)))
        more = KINDS + (("ice", 60),)
        others = (
            Program(more, WELLS, DISHES, (MAKE, BLEND)),
            Program(KINDS[::-1], WELLS, DISHES, (MAKE, BLEND)),
            Program(KINDS, WELLS + (("goat", "milk", 1),), DISHES, (MAKE, BLEND)),
            Program(KINDS, WELLS, DISHES + (("churn", "milk", "curd", 1),), (MAKE, BLEND)),
            Program(KINDS, WELLS, DISHES, (BLEND, MAKE)),
            Program(KINDS, WELLS, DISHES, (MAKE,)),
        )
        for other in others + (None, (), 2, "Program(2, 2)", True, (KINDS, WELLS, DISHES, (MAKE, BLEND))):
            self.assertNotEqual(DAIRY, other)
            self.assertFalse(DAIRY == other)
            self.assertNotEqual(other, DAIRY)

    def test_lists_are_copied(self):
        kinds, wells, dishes, procedures = list(KINDS), list(WELLS), list(DISHES), [MAKE, BLEND]
        program = Program(kinds, wells, dishes, procedures)
        self.assertEqual(program, DAIRY)
        for given in (kinds, wells, dishes, procedures):
            given.clear()
        self.assertEqual(program, DAIRY)
        for part in (program.kinds, program.wells, program.dishes, program.procedures):
            self.assertIs(type(part), tuple)
        self.assertEqual((len(program), program.keep_of("milk"), "make" in program), (2, 8, True))

    def test_is_not_iterated_over(self):
        with self.assertRaises(TypeError):
            list(DAIRY)

    def test_properties_cannot_be_set(self):
        for name in ("kinds", "wells", "dishes", "procedures"):
            with self.assertRaises(AttributeError):
                setattr(DAIRY, name, ())


class ProcedureTest(unittest.TestCase):
    def test_parts(self):
        make = DAIRY["make"]
        self.assertEqual((make.name, make.params, make.results, make.body), MAKE)
        for name in ("params", "results", "body", "names", "shelves"):
            with self.assertRaises(AttributeError):
                setattr(make, name, ())

    def test_len_counts_all_steps(self):
        self.assertEqual([len(FULL[one[0]]) for one in FULL.procedures], [4, 1, 0, 1, 16])

    def test_names_and_shelves_ascend(self):
        whole = FULL["all"]
        self.assertEqual(whole.names, ("a", "b", "c", "m", "n", "q", "z"))
        self.assertEqual(whole.shelves, ("s",))
        self.assertEqual((FULL["none"].names, FULL["none"].shelves), ((), ()))
        body = (("put", "z", "x"), ("put", "k", "b"), ("take", "c", "k"), ("put", "y", "c"), ("put", "z", "x"))
        one = Program(KINDS, (), (), (("p", (("x", "milk"), ("b", "milk"), ("a", "milk")), (), body),))["p"]
        self.assertEqual((one.names, one.shelves), (("a", "b", "c", "x"), ("k", "y", "z")))

    def test_kind_of(self):
        whole = FULL["all"]
        kinds = {name: whole.kind_of(name) for name in whole.names + whole.shelves}
        self.assertEqual(kinds["q"], "curd")
        del kinds["q"]
        self.assertEqual(set(kinds.values()), {"milk"})
        for carrier in ("x", "s0", "", "milk", "cow"):
            with self.assertRaises(UnknownName) as caught:
                whole.kind_of(carrier)
            self.assertEqual(caught.exception.name, carrier)

    def test_equality(self):
        again = Program((("curd", 1), ("milk", 2)), WELLS, DISHES, (BLEND, MAKE))
        self.assertEqual(again["make"], DAIRY["make"])
        self.assertFalse(again["make"] != DAIRY["make"])
        others = (
            ("made",) + MAKE[1:],
            ("make", (("x", "milk"), ("w", "curd"))) + MAKE[2:],
            MAKE[:2] + (("y", "y"),) + MAKE[3:],
            MAKE[:3] + (MAKE[3] + (("wait", 1),),),
        )
        for other in others:
            self.assertNotEqual(Program(KINDS, WELLS, DISHES, (other,))[other[0]], DAIRY["make"])
        for other in (MAKE, None, "make", DAIRY):
            self.assertNotEqual(DAIRY["make"], other)
            self.assertNotEqual(other, DAIRY["make"])


class WithProcedureTest(unittest.TestCase):
    def test_gives_the_program_of_all(self):
        program = DAIRY
        for one in (NONE, MANY, ALL_FORMS):
            program = program.with_procedure(one)
        self.assertEqual(program, FULL)
        self.assertEqual(program["all"], FULL["all"])
        self.assertEqual(DAIRY.procedures, (MAKE, BLEND))
        self.assertEqual((len(DAIRY), "none" in DAIRY, repr(DAIRY)), (2, False, "Program(2, 2)"))

    def test_takes_a_list(self):
        given = list(NONE)
        program = DAIRY.with_procedure(procedure=given)
        given[0] = "other"
        self.assertEqual(program.procedures, (MAKE, BLEND, NONE))

    def test_raises_with_the_index_of_the_procedure(self):
        cases = (
            (MAKE, ("name", 2, -1)),
            (("p", (("x", "ice"),), (), ()), ("param", 2, -1)),
            (("p", (), ("if",), ()), ("result", 2, -1)),
            (("p", (), (), (("wait", 1), ("wait", 0))), ("step", 2, 1)),
            (("p", (), (), (("call", "p", (), ()),)), ("unknown", 2, 0)),
            (("p", (), (), (("call", "make", (), ()),)), ("count", 2, 0)),
            (("p", (("x", "milk"),), (), (("put", "x", "x"),)), ("shelf", 2, -1)),
            (("p", (), (), (("copy", "x", "y"),)), ("kind", 2, 0)),
            (("p", (), ("x",), ()), ("result", 2, -1)),
        )
        for given, told in cases:
            with self.assertRaises(InvalidProgram) as caught:
                DAIRY.with_procedure(given)
            error = caught.exception
            self.assertEqual((error.word, error.procedure, error.place), told)
            self.assertEqual(DAIRY, Program(KINDS, WELLS, DISHES, (MAKE, BLEND)))
            self.assertNotIn("p", DAIRY)
        self.assertEqual(len(DAIRY.with_procedure(("p", (), (), ()))), 3)


if __name__ == "__main__":
    unittest.main()
