"""Promise 5: what `Program.read` tells of any text."""

import random
import unittest

from oracle import expected
from samples import FULL, text_fault

from sourwright.errors import InvalidProgram, InvalidText
from sourwright.programs import Program
from sourwright.texts import show_program

TEXT = show_program(FULL)
SHORT = """kind m 8
kind n 2
well w m 1
dish d m n 9
procedure f x:m y:n -> x y
if
mix x x + x
else
scale x x -9
while
copy z y
end
end
end
procedure g ->
get x w
dish y d x
put s x
take x s
call f x y -> x y
wait 60
end"""
LINES = (
    "kind a 1", "kind abcdef -9999", "well a a 1", "dish a a a 1", "procedure a ->", "procedure b a:a ->",
    "procedure c -> a", "procedure d a:a b:a -> a b", "get a a", "mix a a + a", "mix a b - c", "scale a a 1",
    "scale a a -9", "dish a a a", "copy a a", "wait 1", "wait 0", "put a a", "take a a", "if", "else", "end", "while",
    "call a ->", "call a a b ->", "call a -> a", "call a a -> a a", "", " ", "part a", "use a -> 1", "a", "procedure",
    "->",
)
WRONG_LINES = (
    # Another number of words, also with arrows and colons.
    "kind", "kind a", "kind a 1 1", "kind 1 a", "well a a", "well a 1", "well a a a 1", "dish a a 1", "dish a a a a 1",
    "procedure", "procedure ->", "procedure a", "procedure a b ->", "procedure a -> b:a", "procedure a a:b:c ->",
    "procedure a a: ->", "procedure a :a ->", "procedure a : ->", "procedure a -> ->", "procedure a -> a -> b",
    "procedure -> a", "procedure a a:a", "procedure a a :a ->", "procedure a ->a", "procedure a->", "procedure a:a ->",
    "get", "get a", "get a a a", "mix a a a", "mix a + a a", "mix a a * a", "mix a a +a", "mix a a + a a", "mix a a + 1",
    "scale a a", "scale a a a", "scale a 1", "scale a a 1 1", "scale a a +1", "dish a a", "dish a a a a", "copy a",
    "copy a a a", "wait", "wait a", "wait 1 1", "put a", "put a a a", "take a", "take a a a", "if a", "if if", "else a",
    "end a", "end end", "while a", "while 1", "call", "call a", "call ->", "call a a", "call a -> a -> a", "call a ->a",
    "call -> a", "call a:a ->", "call a -> a:a", "call 1 ->", "call a 1 ->", "call a -> 1",
    # Words that are none, and empty ones.
    "kind sevenly 1", "kind A 1", "kind if 1", "kind part 1", "kind use 1", "kind a1 1", "kind a- 1", "kind  1",
    "kind a  1", " kind a 1", "kind a 1 ", "Kind a 1", "kinds a 1", "well a end 1", "dish a a else 1",
    "procedure end ->", "procedure sevenly ->", "procedure a end:a ->", "procedure a a:end ->", "procedure a -> end",
    "procedure a -> ", "procedure a  ->", "procedure a ->  b", " procedure a ->", "procedure a a:sevenly ->",
    "get a end", "get end a", "get a A", "get a sevenly", "get a ", "get  a", "mix a a + end", "mix end a + a",
    "mix a end + a", "scale if a 1", "scale a if 1", "dish a end a", "dish a a end", "dish end a a", "copy a call",
    "put kind a", "take a well", "call end ->", "call a end ->", "call a -> end", "call a -> ", "call a  ->",
    "call  a ->", " wait 1", "wait 1 ", "wait  1", "if ", " if", "else ", " else", "end ", " end", "while ", "", " ",
    # Numbers that are none.
    "wait 01", "wait 00", "wait -0", "wait +1", "wait --1", "wait -", "wait 10000", "wait -10000", "wait 1.0",
    "wait 1a", "wait -01", "wait 1-", "wait 0x1", "wait 1_0", "wait ", "scale a a 00001", "scale a a -10000",
    "kind a 00", "kind a 08", "kind a 12345", "kind a -0", "well a a 01", "dish a a a 01", "kind a True", "kind a one",
)


class ReadingTest(unittest.TestCase):
    def check(self, text):
        """Holds what reading gives against the second way to read; returns the sort of the result."""
        sort, told = expected(text)
        try:
            program = Program.read(text)
        except InvalidText as error:
            self.assertEqual(("line", error.line), (sort, told), text)
        except InvalidProgram as error:
            self.assertEqual(("fault", (error.word, error.procedure, error.place)), (sort, told), text)
        else:
            self.assertEqual((sort, told), ("program", program), text)
            self.assertEqual(show_program(program), text)
        return sort

    def test_no_lines_and_empty_lines(self):
        self.assertEqual(text_fault(""), 0)
        self.assertEqual(text_fault("\n"), 0)
        self.assertEqual(text_fault("\n" + SHORT), 0)
        self.assertEqual(text_fault(SHORT + "\n"), 22)
        self.assertEqual(text_fault(SHORT + "\n\n"), 22)
        self.assertEqual(text_fault(" " + SHORT), 0)
        self.assertEqual(text_fault(SHORT + " "), 21)
        self.assertEqual(text_fault("kind a 1 "), 0)
        self.assertEqual(text_fault("kind a 1\n "), 1)
        self.assertEqual(text_fault("kind a 1\n\nkind b 1"), 1)

    def test_missing_lines(self):
        lines = SHORT.split("\n")
        whole = (1, 2, 3, 4, 14, 22)
        self.assertEqual(len(lines), 22)
        for many in range(1, 23):
            self.assertEqual(text_fault("\n".join(lines[:many])), None if many in whole else many)

    def test_wrong_lines(self):
        lines = SHORT.split("\n")
        for wrong in WRONG_LINES:
            for at in range(len(lines) + 1):
                text = "\n".join(lines[:at] + [wrong] + lines[at:])
                self.assertEqual(text_fault(text), at, text)

    def test_where_lines_belong(self):
        for lines, told in (
            (("well w m 1", "kind m 1"), 1),
            (("kind m 1", "dish d m m 1", "well w m 1"), 2),
            (("kind m 1", "dish d m m 1", "kind n 1"), 2),
            (("kind m 1", "procedure p ->", "end", "kind n 1"), 3),
            (("kind m 1", "procedure p ->", "end", "well w m 1"), 3),
            (("kind m 1", "procedure p ->", "end", "dish d m m 1"), 3),
            (("kind m 1", "procedure p ->", "kind n 1", "end"), 2),
            (("kind m 1", "procedure p ->", "dish d m m 1", "end"), 2),
            (("kind m 1", "procedure p ->", "procedure q ->", "end", "end"), 2),
            (("kind m 1", "procedure p ->", "end", "end"), 3),
            (("kind m 1", "end"), 1),
            (("kind m 1", "wait 1"), 1),
            (("kind m 1", "dish x d x"), 1),
            (("kind m 1", "procedure p ->", "else", "end"), 2),
            (("kind m 1", "procedure p ->", "while", "else", "end", "end"), 3),
            (("kind m 1", "procedure p ->", "if", "end", "end"), 3),
            (("kind m 1", "procedure p ->", "if", "else", "else", "end", "end"), 4),
            (("kind m 1", "procedure p ->", "if", "else", "end", "else", "end"), 5),
            (("kind m 1", "procedure p ->", "if", "while", "end", "end", "end"), 5),
            (("kind m 1", "procedure p ->", "if", "else", "end"), 5),
            (("kind m 1", "procedure p ->", "if", "else"), 4),
            (("kind m 1", "procedure p ->", "if"), 3),
            (("kind m 1", "procedure p ->"), 2),
        ):
            self.assertEqual(text_fault("\n".join(lines)), told, lines)

    def test_lines_come_before_rules(self):
        rules = (
            ("kind m 61", ("keep", -1, 0)), ("kind m -1", ("keep", -1, 0)), ("kind m 9999", ("keep", -1, 0)),
            ("kind m 1\nkind m 1", ("name", -1, 1)), ("well w m 1", ("kinds", -1, 0)),
            ("procedure p ->\nend", ("kinds", -1, 0)),
            ("kind m 1\nwell w n 1", ("kind", -1, 0)), ("kind m 1\nwell w m 10", ("ticks", -1, 0)),
            ("kind m 1\nwell w m 1\nwell w m 1", ("name", -1, 1)), ("kind m 1\ndish d m m -9999", ("ticks", -1, 0)),
            ("kind m 1\ndish d m n 1", ("kind", -1, 0)),
            ("kind m 1\nprocedure p x:m x:m ->\nend", ("param", 0, -1)),
            ("kind m 1\nprocedure p x:n ->\nend", ("param", 0, -1)),
            ("kind m 1\nprocedure p ->\nend\nprocedure p ->\nend", ("name", 1, -1)),
            ("kind m 1\nprocedure p ->\nwait 0\nend", ("step", 0, 0)),
            ("kind m 1\nprocedure p ->\nwait 9999\nend", ("step", 0, 0)),
            ("kind m 1\nprocedure p x:m ->\nif\nwait 1\nelse\nscale x x -10\nend\nend", ("step", 0, 2)),
            ("kind m 1\nprocedure p ->\nget x w\nend", ("unknown", 0, 0)),
            ("kind m 1\nprocedure p ->\nend\nprocedure q ->\ncall p -> x x\nend", ("count", 1, 0)),
            ("kind m 1\nprocedure p x:m ->\nput x x\nend", ("shelf", 0, -1)),
            ("kind m 1\nprocedure p ->\ncopy x x\nend", ("kind", 0, 0)),
            ("kind m 1\nprocedure p -> x\nend", ("result", 0, -1)),
        )
        for text, told in rules:
            self.assertEqual(text_fault(text), told, text)
            self.assertEqual(text_fault(text + "\nno"), text.count("\n") + 1)
            self.assertEqual(text_fault("no\n" + text), 0)

    def test_characters(self):
        sorts = set()
        for at in range(len(SHORT) + 1):
            for more in " \nazA019-+:>;.":
                sorts.add(self.check(SHORT[:at] + more + SHORT[at:]))
                sorts.add(self.check(SHORT[:at] + more + SHORT[at + 1:]))
            sorts.add(self.check(SHORT[:at] + SHORT[at + 1:]))
            sorts.add(self.check(SHORT[:at] + SHORT[at:at + 1] + SHORT[at:]))
            sorts.add(self.check(SHORT[:at] + SHORT[at:at + 2][::-1] + SHORT[at + 2:]))
            sorts.add(self.check(SHORT[:at]))
        self.assertEqual(sorts, {"line", "fault", "program"})

    def test_words(self):
        lines = [line.split(" ") for line in SHORT.split("\n")]
        spots = [(row, at) for row, line in enumerate(lines) for at in range(len(line))]
        for row, at in spots:
            for words in ([], ["x"], ["m"], ["if"], ["end"], ["7"], ["-12"], ["12345"], ["->"], ["+"], ["x:m"], [""]):
                self.check(self.joined(lines, row, lines[row][:at] + words + lines[row][at + 1:]))
                self.check(self.joined(lines, row, lines[row][:at] + words + lines[row][at:]))
                self.check(self.joined(lines, row, lines[row] + words))
            self.check(self.joined(lines, row, lines[row][:at + 1] + lines[row][at:]))
            for other, where in spots:
                changed = [list(line) for line in lines]
                changed[row][at], changed[other][where] = changed[other][where], changed[row][at]
                self.check("\n".join(" ".join(line) for line in changed))

    def joined(self, lines, row, words):
        return "\n".join(" ".join(words if at == row else line) for at, line in enumerate(lines))

    def test_lines(self):
        lines = TEXT.split("\n")
        for at in range(len(lines) + 1):
            self.check("\n".join(lines[:at] + lines[at + 1:]))
            self.check("\n".join(lines[:at] + lines[at:at + 1] + lines[at:]))
            for line in LINES:
                self.check("\n".join(lines[:at] + [line] + lines[at:]))
                self.check("\n".join(lines[:at] + [line] + lines[at + 1:]))
            for other in range(at):
                changed = list(lines)
                if at < len(lines):
                    changed[at], changed[other] = changed[other], changed[at]
                self.check("\n".join(changed))

    def test_lines_in_any_order(self):
        chance = random.Random(1)
        sorts = [self.check("\n".join(self.some_lines(chance))) for _ in range(4000)]
        for sort in ("line", "fault", "program"):
            self.assertGreater(sorts.count(sort), 100)

    def some_lines(self, chance):
        """Lines that often belong where they stand, with one or the other that does not."""
        lines = ["kind a 1"] * chance.randrange(2) + ["well a a 1"] * chance.randrange(2)
        lines += ["dish a a a 1"] * chance.randrange(2)
        for name in "pqr"[:chance.randrange(4)]:
            lines.append(f"procedure {name} a:a -> a")
            opened = []
            for _ in range(chance.randrange(8)):
                word = chance.choice(["if", "while", "step", "close", "close"])
                if word in ("if", "while"):
                    opened += ["end", "else"] if word == "if" else ["end"]
                    lines.append(word)
                elif word == "step":
                    lines.append(chance.choice(["wait 1", "get a a", "mix a a + a", "dish a a a", "copy b a"]))
                elif opened:
                    lines.append(opened.pop())
            lines += opened[::-1] + ["end"]
        for _ in range(chance.choice([0, 0, 1, 2])):
            lines.insert(chance.randrange(len(lines) + 1), chance.choice(LINES))
        return lines


if __name__ == "__main__":
    unittest.main()
