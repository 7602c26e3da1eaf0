"""Tables and papers (points [24], [25], [37])."""

import random
import unittest

from drawing import code_of, draw_code, draw_sound, draw_type, is_sound
from samples import DAIRY, FULL
from second import Shape, table_stands

from sourwright.code import CodeProgram
from sourwright.errors import InvalidStart, UnknownName
from sourwright.lifetypes import LifeType
from sourwright.lives import composed_type, exact_type
from sourwright.papers import paper_holds, paper_of, table_holds, table_of
from sourwright.programs import Program
from sourwright.rows import LifeRow

MAKE = exact_type(DAIRY, "make")
TABLE = table_of(DAIRY, "make", {})
KINDS = (("m", 8), ("n", 20))
WELLS = (("w", "m", 2),)


def swapped(value, at, new):
    return value[:at] + (new,) + value[at + 1:]


def changed_tables(chance, table, many):
    """Tables of which one thing or the other is changed, so that some still hold."""
    for _ in range(many):
        needs, late, rows = table
        way = chance.randrange(8)
        at = chance.randrange(len(late))
        if way == 0 and needs:
            index = chance.randrange(len(needs))
            needs = swapped(needs, index, needs[index] + chance.choice((-1, 1)))
        elif way == 1:
            late = swapped(late, at, late[at] + chance.choice((-1, 1)))
        elif way == 2 and rows[at]:
            index = chance.randrange(len(rows[at]))
            rows = swapped(rows, at, rows[at][:index] + rows[at][index + 1:])
        elif way == 3:
            other = chance.randrange(len(rows))
            rows = swapped(rows, at, rows[other])
        elif rows[at]:
            index = chance.randrange(len(rows[at]))
            carrier, row = rows[at][index]
            if way == 4:
                carrier = chance.choice("abcdst") if chance.random() < 0.5 else chance.choice(("c0", "c1", "p0", "r0"))
            else:
                row = changed_row(chance, row)
            rows = swapped(rows, at, swapped(rows[at], index, (carrier, row)))
        yield (needs, late, rows)


def changed_row(chance, row):
    left, lost = row.left, row.lost
    if chance.random() < 0.4 or not lost:
        left = chance.choice((None, 0, -1 if left is None else max(left - 1, -1), 60 if left is None else min(left + 1, 60)))
    else:
        index = chance.randrange(len(lost))
        entry = lost[index]
        lost = swapped(lost, index, chance.choice((None, 0, 61, 5 if entry is None else min(61, entry + 1),
                                                   5 if entry is None else max(0, entry - 1))))
    return LifeRow(left, lost)


class TableTest(unittest.TestCase):
    def test_holds(self):
        self.assertIs(table_holds(DAIRY, "make", {}, MAKE, TABLE), True)
        self.assertIs(table_holds(program=DAIRY, name="make", types={}, u=MAKE, table=TABLE), True)
        self.assertIs(table_holds(DAIRY, "make", {}, MAKE.plain(), TABLE), True)
        worse = LifeType((8,), (4,), 7, (LifeRow(19, (None,)),))
        self.assertIs(table_holds(DAIRY, "make", {}, worse, TABLE), True)
        self.assertIs(table_holds(DAIRY, "make", {}, LifeType.never((8,), 1), TABLE), True)
        for better in (
            LifeType((8,), (2,), 6, (LifeRow(20, (None,)),)), LifeType((8,), (3,), 5, (LifeRow(20, (None,)),)),
            LifeType((8,), (3,), 6, (LifeRow(21, (None,)),)),
        ):
            self.assertIs(table_holds(DAIRY, "make", {}, better, TABLE), False)

    def test_a_table_by_hand(self):
        rows = (
            (("x", LifeRow(None, (0,))),), (("x", LifeRow(None, (1,))),), (("x", LifeRow(None, (1,))),),
            (("x", LifeRow(8, (3,))),), (("y", LifeRow(20, (None,))),),
        )
        table = ((3,), (0, 1, 1, 3, 6), rows)
        self.assertTrue(table_holds(DAIRY, "make", {}, MAKE, table))
        for needs, holds in (((2,), False), ((4,), False), ((60,), False), ((-1,), False)):
            self.assertIs(table_holds(DAIRY, "make", {}, MAKE, (needs,) + table[1:]), holds)
        self.assertTrue(table_holds(DAIRY, "make", {}, LifeType.never((8,), 1), ((60,),) + table[1:]))
        for late, holds in (
            ((0, 1, 1, 3, 5), False), ((0, 1, 1, 2, 6), False), ((0, 0, 1, 3, 6), False), ((1, 1, 1, 3, 6), False),
            ((0, 1, 1, 3, 7), False), ((0, 1, 1, 4, 7), False),
        ):
            self.assertIs(table_holds(DAIRY, "make", {}, MAKE, (table[0], late, rows)), holds)
        # At place 0, only the entry of the parameter must be there, whatever it is.
        for row, holds in ((LifeRow(5, (0,)), False), (LifeRow(None, (1,)), False), (LifeRow(8, (0,)), False),
                           (LifeRow(8, (None,)), False)):
            other = swapped(rows, 0, (("x", row),))
            self.assertIs(table_holds(DAIRY, "make", {}, MAKE, (table[0], table[1], other)), holds, row)
        # Rows that are worse than what follows are right, as far as what they show is enough.
        for row in (LifeRow(8, (2,)), LifeRow(3, (3,)), LifeRow(0, (3,))):
            other = swapped(rows, 1, (("x", row),))
            self.assertTrue(table_holds(DAIRY, "make", {}, MAKE, (table[0], table[1], other)))
        self.assertTrue(table_holds(DAIRY, "make", {}, MAKE, (table[0], table[1], swapped(rows, 3, (("x", LifeRow(0, (3,))),)))))
        for row in (LifeRow(-1, (3,)), LifeRow(8, (4,)), LifeRow(None, (3,)), LifeRow(9, (3,)), LifeRow(8, (2,)),
                    LifeRow(8, (None,))):
            other = swapped(rows, 3, (("x", row),))
            self.assertFalse(table_holds(DAIRY, "make", {}, MAKE, (table[0], table[1], other)), row)

    def test_values_of_other_forms(self):
        needs, late, rows = TABLE
        pair = rows[0][0]
        for value in (
            None, True, 3, "", "table", (), (needs, late), (needs, late, rows, ()), ((), late, rows), ((3, 3), late, rows),
            ((True,), late, rows), (("3",), late, rows), ((None,), late, rows), ((61,), late, rows), ((-2,), late, rows),
            (3, late, rows), (None, late, rows), ("3", late, rows), (needs, late[:-1], rows), (needs, late + (6,), rows),
            (needs, None, rows), (needs, swapped(late, 1, True), rows), (needs, swapped(late, 1, "1"), rows),
            (needs, swapped(late, 4, 62), rows), (needs, swapped(late, 0, -1), rows), (needs, swapped(late, 0, None), rows),
            (needs, late, rows[:-1]), (needs, late, rows + ((),)), (needs, late, None), (needs, late, ()),
            (needs, late, swapped(rows, 0, None)), (needs, late, swapped(rows, 0, pair)), (needs, late, swapped(rows, 0, "x")),
            (needs, late, swapped(rows, 0, (pair, pair))), (needs, late, swapped(rows, 0, (pair + (1,),))),
            (needs, late, swapped(rows, 0, (("x",),))), (needs, late, swapped(rows, 0, (("x", None),))),
            (needs, late, swapped(rows, 0, (("x", (None, (0,))),))), (needs, late, swapped(rows, 0, ((None, pair[1]),))),
            (needs, late, swapped(rows, 0, ((pair[1], pair[1]),))), (needs, late, swapped(rows, 0, ((("x",), pair[1]),))),
            (needs, late, swapped(rows, 0, (("q", pair[1]),))), (needs, late, swapped(rows, 0, (("x", LifeRow(None, (0, 0))),))),
            (needs, late, swapped(rows, 0, (("x", LifeRow(None, ())),))),
            (needs, late, swapped(rows, 0, (("x", LifeRow(None, (False,))),))),
            (needs, late, swapped(rows, 0, (("x", LifeRow(True, (0,))),))),
            (needs, late, swapped(rows, 0, (("x", LifeRow(None, ("0",))),))),
            (needs, late, swapped(rows, 0, (("x", LifeRow(61, (0,))),))), (LifeRow(3, ()), late, rows), (needs, late, LifeRow(3, ())),
            (needs, late, swapped(rows, 0, (("x", LifeRow(None, (None,))),))), MAKE, (MAKE,) * 3,
        ):
            self.assertIs(table_holds(DAIRY, "make", {}, MAKE, value), False, value)

    def test_numbers_that_no_table_has(self):
        never = LifeType.never((8,), 1)
        needs, late, rows = TABLE
        self.assertTrue(table_holds(DAIRY, "make", {}, never, ((60,), late, rows)))
        self.assertFalse(table_holds(DAIRY, "make", {}, never, ((61,), late, rows)))
        self.assertTrue(table_holds(DAIRY, "make", {}, never, (needs, swapped(late, 4, 61), rows)))
        self.assertFalse(table_holds(DAIRY, "make", {}, never, (needs, swapped(late, 4, 62), rows)))
        self.assertTrue(table_holds(DAIRY, "make", {}, MAKE, TABLE))
        # Whatever lies in x at place 1 is replaced there.
        for row, holds in ((LifeRow(-1, (1,)), True), (LifeRow(-2, (1,)), False), (LifeRow(60, (61,)), True),
                           (LifeRow(61, (1,)), False), (LifeRow(60, (62,)), False), (LifeRow(False, (1,)), False)):
            self.assertIs(table_holds(DAIRY, "make", {}, MAKE, (needs, late, swapped(rows, 1, (("x", row),)))), holds)
        for claimed in (LifeType((8,), (62,), 60, (None,), sours=True), LifeType((8,), (61,), 62, (None,), sours=True),
                        LifeType((8,), (61,), 60, (LifeRow(61, (0,)),), sours=True), LifeType((8,), (-2,), 60, (None,), sours=True)):
            self.assertFalse(table_holds(DAIRY, "make", {}, claimed, TABLE))

    def test_drawn_tables_by_exact_types(self):
        self.check_tables(random.Random(61), False)

    def test_drawn_tables_by_given_types(self):
        self.check_tables(random.Random(62), True)

    def check_tables(self, chance, are_given):
        seen = {True: 0, False: 0}
        for number in range(120):
            program = draw_sound(chance, procedures=3, size=7, most=chance.choice((4, 6)))
            program = code_of(program, chance) if number % 3 == 0 else program
            types = {}
            for given in program.procedures:
                name = given[0]
                shape = Shape(program, name)
                keeps = tuple(program.keep_of(kind) for kind in shape.kinds)
                composed = composed_type(program, name, types)
                may_have_table = not composed.is_never and not any(
                    types[step[1]].is_never for step in shape.steps if step[0] == "call")
                if may_have_table:
                    table = table_of(program, name, types)
                    self.check(program, name, types, composed, table, True)
                    for claimed in (composed.plain(), draw_type(chance, keeps, len(shape.results))):
                        self.check(program, name, types, claimed, table)
                    for other in changed_tables(chance, table, 12):
                        seen[self.check(program, name, types, composed, other)] += 1
                    if are_given and types:
                        others = {one: draw_type(chance, types[one].keeps, len(types[one].rows)) for one in types}
                        seen[self.check(program, name, others, composed, table)] += 1
                types[name] = draw_type(chance, keeps, len(shape.results)) if are_given else composed
        self.assertGreater(min(seen.values()), 100)

    def check(self, program, name, types, claimed, table, expected=None):
        told = table_holds(program, name, types, claimed, table)
        self.assertIs(told, table_stands(program, name, types, claimed, table))
        if expected is not None:
            self.assertIs(told, expected)
        return told

    def test_types_that_are_no_rows_or_sour(self):
        program = Program(KINDS, WELLS, (), (
            ("f", (("x", "m"),), ("x", "x"), ()),
            ("p", (("x", "m"),), ("a",), (("call", "f", ("x",), ("a", "b")), ("copy", "b", "b"))),
        ))
        types = {"f": LifeType((8,), (-1,), 0, (LifeRow(None, (0,)), None))}
        composed = composed_type(program, "p", types)
        table = table_of(program, "p", types)
        self.assertTrue(table_holds(program, "p", types, composed, table))
        self.assertNotIn("b", [carrier for pairs in table[2] for carrier, _ in pairs])
        more = (table[0], table[1], swapped(table[2], 1, table[2][1] + (("b", LifeRow(-1, (61,))),)))
        self.assertFalse(table_holds(program, "p", types, composed, more))
        for never in (LifeType.never((8,), 2), LifeType((8,), (9,), 0, (LifeRow(None, (0,)), None))):
            self.assertFalse(table_holds(program, "p", {"f": never}, LifeType.never((8,), 1), table))

    def test_code(self):
        rows = (("ask", 2), ("get", 1, "w", 0), ("put", 0, 0), ("take", 1, 0), ("end", (1, 1)))
        code = CodeProgram(KINDS, WELLS, (), (("p", ("m",), rows),))
        composed = exact_type(code, "p")
        table = (
            (3,), (0, 1, 3, 4, 5, 5),
            ((("c0", LifeRow(None, (0,))),), (("c0", LifeRow(None, (1,))),), (("c0", LifeRow(None, (3,))),),
             (("p0", LifeRow(None, (3,))),), (("c1", LifeRow(None, (3,))),),
             (("r0", LifeRow(None, (3,))), ("r1", LifeRow(None, (3,))))),
        )
        self.assertTrue(table_holds(code, "p", {}, composed, table))
        for last in ((("c1", LifeRow(None, (3,))),), table[2][5] + (("c1", LifeRow(None, (3,))),), table[2][5] + table[2][5][:1]):
            self.assertFalse(table_holds(code, "p", {}, composed, (table[0], table[1], swapped(table[2], 5, last))))
        early = swapped(table[2], 4, table[2][4] + (("r0", LifeRow(None, (3,))),))
        self.assertFalse(table_holds(code, "p", {}, composed, (table[0], table[1], early)))
        self.assertEqual([carrier for carrier, _ in table_of(code, "p", {})[2][5]], ["r0", "r1"])

    def test_drawn_code(self):
        chance = random.Random(63)
        many = 0
        while many < 150:
            code = draw_code(chance)
            if is_sound(code):
                many += 1
                for given in code.procedures:
                    paper = paper_of(code, given[0])
                    lives = tuple(code.keep_of(kind) for kind in given[1])
                    if paper is not None:
                        self.assertTrue(paper_holds(code, given[0], lives, paper))
                        one, claimed, table = paper[-1]
                        types = {name: told for name, told, _ in paper}
                        self.check(code, one, types, claimed, table, True)
                        for other in changed_tables(chance, table, 5):
                            self.check(code, one, types, claimed, other)

    def test_unknown(self):
        for ask in (lambda: table_of(DAIRY, "cow", {}), lambda: table_holds(DAIRY, "cow", {}, MAKE, None),
                    lambda: paper_of(DAIRY, "cow"), lambda: paper_holds(DAIRY, "cow", (9,), None)):
            with self.assertRaises(UnknownName) as caught:
                ask()
            self.assertEqual(caught.exception.name, "cow")


class PaperTest(unittest.TestCase):
    W = ("wait", 1)
    PROGRAM = Program(KINDS, WELLS, (), (
        ("aa", (("x", "m"),), ("x",), (W,)), ("bb", (), (), ()), ("cc", (("x", "m"),), ("y",), (("call", "aa", ("x",), ("y",)),)),
        ("dd", (("x", "m"),), ("y",), (("call", "cc", ("x",), ("y",)), ("scale", "y", "y", 1), ("call", "aa", ("y",), ("x",)))),
        ("ee", (), (), (("get", "x", "w"), ("wait", 9), ("scale", "x", "x", 1))),
    ))

    def test_example(self):
        paper = paper_of(DAIRY, "make")
        self.assertEqual((paper_holds(DAIRY, "make", (3,), paper), paper_holds(DAIRY, "make", (2,), paper)), (True, False))
        self.assertIs(paper_holds(program=DAIRY, name="make", lives=[8], value=paper_of(program=DAIRY, name="make")), True)

    def test_the_procedures_in_order(self):
        paper = paper_of(self.PROGRAM, "dd")
        self.assertEqual([triple[0] for triple in paper], ["aa", "cc", "dd"])
        self.assertEqual([triple[1] for triple in paper], [exact_type(self.PROGRAM, one) for one in ("aa", "cc", "dd")])
        self.assertTrue(paper_holds(self.PROGRAM, "dd", (4,), paper))
        self.assertFalse(paper_holds(self.PROGRAM, "dd", (2,), paper))
        for other in (
            paper[1:], paper[:2], paper[::-1], paper + paper[:1], (paper[1], paper[0], paper[2]), paper[:1] * 3,
            (paper[0], ("bb",) + paper[1][1:], paper[2]), (paper[0], paper[1][:2], paper[2]),
            (paper[0], paper[1] + (None,), paper[2]), (paper[0], ("cc", None, paper[1][2]), paper[2]),
            (paper[0], ("cc", paper[1][1], None), paper[2]), (paper[0], None, paper[2]), (paper[0], ("cc", True, ()), paper[2]),
            None, True, "paper", (), 3, (3, 4, 5),
        ):
            self.assertIs(paper_holds(self.PROGRAM, "dd", (8,), other), False, other)

    def test_none(self):
        self.assertIsNone(paper_of(self.PROGRAM, "ee"))
        late = Program(KINDS, WELLS, (), (("p", (("x", "m"),), (), (("wait", 9), ("scale", "x", "x", 1))),))
        self.assertIsNone(paper_of(late, "p"))

    def test_types_need_not_be_exact(self):
        _, exact, table = paper_of(self.PROGRAM, "aa")[0]
        worse = LifeType((8,), (0,), 2, (LifeRow(7, (3,)),))
        self.assertTrue(paper_holds(self.PROGRAM, "aa", (0,), (("aa", worse, table),)))
        self.assertFalse(paper_holds(self.PROGRAM, "aa", (-1,), (("aa", worse, table),)))
        self.assertTrue(paper_holds(self.PROGRAM, "aa", (-1,), (("aa", exact, table),)))
        types = {"aa": worse}
        above = composed_type(self.PROGRAM, "cc", types)
        paper = (("aa", worse, table), ("cc", above, table_of(self.PROGRAM, "cc", types)))
        self.assertTrue(paper_holds(self.PROGRAM, "cc", (0,), paper))
        # Against the worse type, the table for the exact one does not hold.
        other = (("aa", worse, table), paper_of(self.PROGRAM, "cc")[-1])
        self.assertFalse(paper_holds(self.PROGRAM, "cc", (8,), other))
        # Types that no table shows.
        better = LifeType((8,), (-1,), 0, (LifeRow(None, (1,)),))
        self.assertFalse(paper_holds(self.PROGRAM, "aa", (8,), (("aa", better, table),)))
        for wrong in (
            LifeType((9,), (-1,), 1, (LifeRow(None, (1,)),)), LifeType((8,), (-1,), 1, ()), LifeType.never((8,), 1),
            LifeType((8, 8), (-1, -1), 1, (LifeRow(None, (1, None)),)), LifeType((8,), (9,), 1, (LifeRow(None, (1,)),)),
            LifeType((8,), (True,), 1, (LifeRow(None, (1,)),)), LifeType((8,), ("-1",), 1, (LifeRow(None, (1,)),)),
            LifeType((8,), (-1,), True, (LifeRow(None, (1,)),)), LifeType((8,), (-1,), None, (LifeRow(None, (1,)),)),
            LifeType((8,), (-1,), 1, (LifeRow(None, (True,)),)), LifeType((8,), (-1,), 1, (LifeRow(None, ()),)),
            LifeType((8,), (-1,), 1, ("row",)), LifeType((8,), (), 1, (LifeRow(None, (1,)),)), LifeRow(1, (1,)),
        ):
            self.assertFalse(paper_holds(self.PROGRAM, "aa", (8,), (("aa", wrong, table),)))

    def test_errors_of_a_start_first(self):
        for program in (DAIRY, code_of(DAIRY)):
            for lives, told in (((), ("count", 1)), ((9,), ("life", 0)), ((True,), ("life", 0)), ((-2,), ("life", 0))):
                with self.assertRaises(InvalidStart) as caught:
                    paper_holds(program, "make", lives, None)
                self.assertEqual((caught.exception.word, caught.exception.index), told)

    def test_drawn_papers(self):
        chance = random.Random(64)
        for number in range(200):
            program = draw_sound(chance, procedures=4)
            program = code_of(program, chance) if number % 3 == 0 else program
            for given in program.procedures:
                exact = exact_type(program, given[0])
                paper = paper_of(program, given[0])
                self.assertEqual(paper is None, exact.is_never)
                self.assertEqual(paper_of(program, given[0]), paper)
                if paper is not None:
                    self.assertEqual(paper[-1][:2], (given[0], exact))
                    self.assertTrue(paper_holds(program, given[0], tuple(exact.needs), paper))
                    for index, need in enumerate(exact.needs):
                        if need >= 0:
                            lives = swapped(exact.keeps, index, need - 1)
                            self.assertFalse(paper_holds(program, given[0], lives, paper))
                    types = {}
                    for one, told, table in paper:
                        self.assertTrue(table_holds(program, one, types, told, table))
                        types[one] = told

    def test_full(self):
        self.assertTrue(paper_of(FULL, "all") is None and exact_type(FULL, "all").is_never)
        self.assertEqual([triple[0] for triple in paper_of(FULL, "many")], ["many"])


if __name__ == "__main__":
    unittest.main()
