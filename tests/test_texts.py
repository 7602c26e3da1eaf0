"""Promises 4 and 6: showing programs, and reading their texts back."""

import unittest

from samples import BLEND, DAIRY, FULL, KINDS, MAKE, nested, text_fault

from sourwright.programs import Program
from sourwright.texts import show_program

DAIRY_TEXT = """kind milk 8
kind curd 20
well cow milk 2
dish press milk curd 3
procedure make x:milk -> y
if
get x cow
else
wait 2
end
dish y press x
end
procedure blend a:milk b:milk -> c
mix c a + b
end"""
FULL_TEXT = DAIRY_TEXT + """
procedure none ->
end
procedure many -> x x
get x cow
end
procedure all a:milk b:milk -> z a z
get z cow
mix z a - z
scale z z -9
dish q press a
copy c b
wait 60
put s a
while
if
else
wait 1
end
while
end
end
take a s
call blend a a -> a
call none ->
if
call many -> m n
else
end
end"""
UNSOUND = """kind m 0
kind n 60
procedure p x:m ->
take y s
end"""


class ShowTest(unittest.TestCase):
    def test_shows_line_by_line(self):
        self.assertEqual(show_program(DAIRY), DAIRY_TEXT)
        self.assertEqual(show_program(FULL), FULL_TEXT)
        self.assertEqual(show_program(program=Program((("a", 0),), (), (), ())), "kind a 0")

    def test_arrow_without_space(self):
        program = Program(KINDS, (), (), (("p", (("x", "milk"),), (), ()), ("q", (), (), ())))
        program = program.with_procedure(("r", (("x", "milk"),), ("x",), (("call", "p", ("x",), ()),)))
        self.assertEqual(show_program(program).split("\n")[2:], [
            "procedure p x:milk ->", "end", "procedure q ->", "end", "procedure r x:milk -> x", "call p x ->", "end",
        ])

    def test_shows_unsound_programs(self):
        body = (
            ("if", (("get", "x", "cow"),), ()), ("put", "s", "x"), ("put", "s", "x"),
            ("take", "y", "s"), ("take", "y", "s"), ("copy", "z", "x"),
        )
        program = Program(KINDS, (("cow", "milk", 2),), (), (("p", (), ("x",), body),))
        text = show_program(program)
        self.assertEqual(text.split("\n")[3:], [
            "procedure p -> x", "if", "get x cow", "else", "end", "put s x", "put s x", "take y s", "take y s",
            "copy z x", "end",
        ])
        self.assertEqual(Program.read(text), program)

    def test_changes_nothing(self):
        self.assertEqual(show_program(FULL), show_program(FULL))
        self.assertEqual(FULL.procedures[:2], (MAKE, BLEND))


class ReadTest(unittest.TestCase):
    def check_read_back(self, program):
        text = show_program(program)
        again = Program.read(text)
        self.assertEqual(again, program)
        self.assertEqual(
            (again.kinds, again.wells, again.dishes, again.procedures),
            (program.kinds, program.wells, program.dishes, program.procedures),
        )
        self.assertEqual(show_program(again), text)

    def test_reads_back(self):
        for program in (DAIRY, FULL, Program((("a", 0),), (), (), ())):
            self.check_read_back(program)

    def test_reads_by_keyword_and_from_an_object(self):
        self.assertEqual(Program.read(text=DAIRY_TEXT), DAIRY)
        self.assertEqual(DAIRY.read(FULL_TEXT), FULL)

    def test_reads_back_numbers_at_their_limits(self):
        body = tuple(("scale", "x", "x", number) for number in range(-9, 10))
        body = body + tuple(("wait", number) for number in (1, 9, 10, 59, 60))
        kinds = (("a", 0), ("b", 60), ("c", 10))
        wells = (("v", "a", 1), ("w", "a", 9))
        dishes = (("v", "a", "b", 1), ("w", "a", "b", 9))
        self.check_read_back(Program(kinds, wells, dishes, (("p", (("x", "a"),), (), body),)))

    def test_reads_back_words(self):
        for word in ("a", "abcdef", "zzzzzz", "iff", "ends", "parts", "uses", "elses"):
            one = (word, ((word, word),), (word, word), (("get", word, word), ("dish", word, word, word)))
            two = ("other", (), (), (("get", "x", word), ("call", word, ("x",), ("y", "z"))))
            self.check_read_back(Program(((word, 3),), ((word, word, 3),), ((word, word, word, 3),), (one, two)))

    def test_reads_back_bodies(self):
        for body in (
            (("if", (), ()),), (("if", (("wait", 1),), ()),), (("if", (), (("wait", 1),)),), (("while", ()),),
            (("if", (("if", (), ()), ("while", ())), (("while", (("if", (), ()),)),)), ("wait", 1)),
            (("while", (("while", (("wait", 1),)), ("wait", 2))), ("wait", 3)),
        ):
            self.check_read_back(Program(KINDS, (), (), (("p", (), (), body), ("q", (), (), body))))

    def test_reads_many_of_each(self):
        letters = "abcdefghijklmno"
        kinds = tuple((one, at) for at, one in enumerate(letters))
        wells = tuple((one, one, 1) for one in letters)
        dishes = tuple((one, one, one, 2) for one in letters)
        procedures = tuple((one, tuple((name, "a") for name in letters), tuple(letters), ()) for one in letters)
        self.check_read_back(Program(kinds, wells, dishes, procedures))

    def test_unsound_text(self):
        self.assertEqual(text_fault(UNSOUND), ("kind", 0, 0))
        self.assertEqual(show_program(Program.read(UNSOUND.replace("take y s", "put s x"))).count("put s x"), 1)


class DepthTest(unittest.TestCase):
    HEAD = "kind m 1\nprocedure p ->\n"

    def test_eight_bodies_are_read(self):
        for bodies in range(1, 9):
            text = self.HEAD + "while\n" * bodies + "end\n" * bodies + "end"
            program = Program.read(text)
            self.assertEqual(program["p"].body, nested(bodies))
            self.assertEqual(show_program(program), text)

    def test_the_line_that_opens_one_more(self):
        for bodies in (9, 10, 100, 200):
            for word in ("while", "if"):
                text = self.HEAD + "while\n" * 8 + (word + "\n") * (bodies - 8) + "end\n" * bodies + "end"
                self.assertEqual(text_fault(text), 10)
                self.assertEqual(text_fault(self.HEAD + "wait 1\n" + "if\n" * bodies), 11)
                self.assertEqual(text_fault(self.HEAD + "if\nelse\n" * 8 + word), 18)

    def test_closed_bodies_do_not_count(self):
        pairs = "while\nend\nif\nelse\nend\n" * 30
        self.assertEqual(len(Program.read(self.HEAD + pairs + "end")["p"]), 60)
        text = self.HEAD + "while\n" * 7 + pairs + "end\n" * 7 + "end"
        self.assertEqual(len(Program.read(text)["p"]), 67)
        text = self.HEAD + "while\n" * 8 + "wait 1\n" + pairs + "end\n" * 8 + "end"
        self.assertEqual(text_fault(text), 11)

    def test_the_line_comes_before_all_rules(self):
        text = "kind m 99\nprocedure p ->\n" + "while\n" * 9 + "end\n" * 10 + "no line"
        self.assertEqual(text_fault(text), 10)


if __name__ == "__main__":
    unittest.main()
