"""Promise 7: what code programs and code procedures tell."""

import unittest

from samples import DAIRY, DISHES, KINDS, WELLS

from sourwright.code import CodeProcedure, CodeProgram
from sourwright.errors import UnknownName
from sourwright.programs import Book, Program

MAKE = (
    "make", ("milk",),
    (("ask", 3), ("get", 0, "cow", 1), ("jump", 4), ("wait", 2), ("dish", 1, "press", 0), ("end", (1,))),
)
BLEND = ("blend", ("milk", "milk"), (("mix", 0, "+", 0, 1), ("end", (0, 0))))
WHOLE = (
    "whole", ("milk", "curd"),
    (
        ("mix", 2, "-", 0, 0), ("scale", 2, 2, -9), ("copy", 15, 2), ("put", 15, 2), ("take", 2, 15), ("wait", 60),
        ("call", "blend", (0, 0), (3, 4)), ("call", "none", (), ()), ("ask", 0), ("end", ()),
    ),
)
NONE = ("none", (), (("end", ()),))
CODE = CodeProgram(KINDS, WELLS, DISHES, (MAKE, BLEND, NONE, WHOLE))


class CodeProgramTest(unittest.TestCase):
    def test_parts(self):
        self.assertEqual((CODE.kinds, CODE.wells, CODE.dishes), (KINDS, WELLS, DISHES))
        self.assertEqual(CODE.procedures, (MAKE, BLEND, NONE, WHOLE))
        self.assertIsInstance(CODE, Book)
        self.assertNotIsInstance(CODE, Program)
        for name in ("kinds", "wells", "dishes", "procedures"):
            with self.assertRaises(AttributeError):
                setattr(CODE, name, ())

    def test_by_keyword(self):
        self.assertEqual(CodeProgram(procedures=CODE.procedures, dishes=DISHES, wells=WELLS, kinds=KINDS), CODE)

    def test_len_in_and_item(self):
        self.assertEqual(len(CODE), 4)
        self.assertEqual(len(CodeProgram(KINDS, (), (), ())), 0)
        for name in ("make", "blend", "none", "whole"):
            self.assertIn(name, CODE)
            self.assertIsInstance(CODE[name], CodeProcedure)
            self.assertEqual(CODE[name].name, name)
        for name in ("milk", "cow", "press", "", "c0"):
            self.assertNotIn(name, CODE)
            with self.assertRaises(UnknownName) as caught:
                CODE[name]
            self.assertEqual(caught.exception.name, name)

    def test_keep_of_and_ticks_of(self):
        self.assertEqual((CODE.keep_of("milk"), CODE.keep_of(kind="curd")), (8, 20))
        self.assertEqual((CODE.ticks_of("cow"), CODE.ticks_of(name="press")), (2, 3))
        both = CodeProgram(KINDS, (("b", "milk", 4), ("a", "milk", 9)), (("a", "milk", "milk", 1),), ())
        self.assertEqual((both.ticks_of("a"), both.ticks_of("b")), (9, 4))
        for ask, name in ((CODE.keep_of, "cow"), (CODE.keep_of, "make"), (CODE.ticks_of, "milk"), (CODE.ticks_of, "")):
            with self.assertRaises(UnknownName) as caught:
                ask(name)
            self.assertEqual(caught.exception.name, name)

    def test_repr(self):
        self.assertEqual(repr(CODE), "CodeProgram(2, 4)")
        self.assertEqual(repr(CodeProgram((("a", 0),), (), (), ())), "CodeProgram(1, 0)")

    def test_equality(self):
        procedures = CODE.procedures
        self.assertEqual(CODE, CodeProgram(KINDS, WELLS, DISHES, procedures))
        self.assertFalse(CODE != CodeProgram(KINDS, WELLS, DISHES, procedures))
        others = (
            CodeProgram(KINDS + (("ice", 1),), WELLS, DISHES, procedures),
            CodeProgram(KINDS, WELLS + (("goat", "milk", 1),), DISHES, procedures),
            CodeProgram(KINDS, WELLS, DISHES + (("churn", "milk", "curd", 1),), procedures),
            CodeProgram(KINDS, WELLS, DISHES, procedures[:3]),
            CodeProgram(KINDS, WELLS, DISHES, (BLEND, MAKE, NONE, WHOLE)),
        )
        for other in others + (DAIRY, None, 2, (KINDS, WELLS, DISHES, procedures), "CodeProgram(2, 4)"):
            self.assertFalse(CODE == other)
            self.assertTrue(CODE != other)
            self.assertFalse(other == CODE)
        self.assertNotEqual(Program(KINDS, WELLS, DISHES, ()), CodeProgram(KINDS, WELLS, DISHES, ()))
        self.assertNotEqual(CodeProgram(KINDS, WELLS, DISHES, ()), Program(KINDS, WELLS, DISHES, ()))

    def test_lists_are_copied(self):
        given = [list(KINDS), list(WELLS), list(DISHES), list(CODE.procedures)]
        code = CodeProgram(*given)
        for part in given:
            part.clear()
        self.assertEqual(code, CODE)
        for part in (code.kinds, code.wells, code.dishes, code.procedures):
            self.assertIs(type(part), tuple)


class CodeProcedureTest(unittest.TestCase):
    def test_parts(self):
        for given in CODE.procedures:
            one = CODE[given[0]]
            self.assertEqual((one.name, one.params, one.rows), given)
            self.assertEqual(len(one), len(given[2]))
            for name in ("params", "rows"):
                with self.assertRaises(AttributeError):
                    setattr(one, name, ())

    def test_equality(self):
        again = CodeProgram((("milk", 1), ("curd", 1)), WELLS, DISHES, (BLEND, MAKE))
        self.assertEqual(again["make"], CODE["make"])
        self.assertFalse(again["make"] != CODE["make"])
        others = (("made",) + MAKE[1:], ("make", ("curd",), MAKE[2]), ("make", ("milk",), MAKE[2][:-1] + (("end", (0,)),)))
        for other in others:
            self.assertNotEqual(CodeProgram(KINDS, WELLS, DISHES, (other,))[other[0]], CODE["make"])
        program = Program(KINDS, WELLS, DISHES, (("none", (), (), ()),))
        for other in (MAKE, None, "make", CODE, program["none"]):
            self.assertNotEqual(CODE["make"], other)
            self.assertNotEqual(other, CODE["make"])
        self.assertNotEqual(CODE["none"], program["none"])


if __name__ == "__main__":
    unittest.main()
