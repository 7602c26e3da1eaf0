"""Bounds for lives (points [2], [18])."""

import itertools
import random
import unittest

from drawing import draw_row

from sourwright.rows import LifeRow

ENTRIES = (None, 0, 1, 7, 59, 60, 61)
LEFTS = (None, -1, 0, 1, 30, 59, 60)
ROWS = [
    LifeRow(left, lost) for left in LEFTS for lost in itertools.product(ENTRIES, repeat=2)
    if left is not None or lost != (None, None)
]


def terms(row):
    """The terms of a row by name; greater is better."""
    found = {index: -entry for index, entry in enumerate(row.lost) if entry is not None}
    if row.left is not None:
        found["left"] = row.left
    return found


class RowTest(unittest.TestCase):
    def test_properties(self):
        row = LifeRow(20, (None, 3))
        self.assertEqual((row.left, row.lost), (20, (None, 3)))
        self.assertEqual(LifeRow(left=None, lost=[0]).lost, (0,))
        for name in ("left", "lost"):
            with self.assertRaises(AttributeError):
                setattr(row, name, 1)
        lost = [1, 2]
        row = LifeRow(-1, lost)
        lost[0] = 9
        self.assertEqual(row.lost, (1, 2))

    def test_repr(self):
        self.assertEqual(repr(LifeRow(20, (None,))), "LifeRow(20, (None,))")
        self.assertEqual(repr(LifeRow(None, (0, 61))), "LifeRow(None, (0, 61))")
        self.assertEqual(repr(LifeRow(-1, [])), "LifeRow(-1, ())")

    def test_equality(self):
        self.assertEqual(LifeRow(1, (2, None)), LifeRow(1, [2, None]))
        self.assertFalse(LifeRow(1, (2, None)) != LifeRow(1, (2, None)))
        for other in (LifeRow(0, (2, None)), LifeRow(None, (2, None)), LifeRow(1, (2, 0)), LifeRow(1, (2,)), (1, (2, None)),
                      None, 1, "LifeRow(1, (2, None))"):
            self.assertFalse(LifeRow(1, (2, None)) == other)
            self.assertTrue(other != LifeRow(1, (2, None)))

    def test_call(self):
        self.assertEqual(LifeRow(5, (None, 2))((-1, 60)), 5)
        self.assertEqual(LifeRow(5, (None, 2))((0, 6)), 4)
        self.assertEqual(LifeRow(5, (None, 2))([0, 0]), -1)
        self.assertEqual(LifeRow(None, (61,))((60,)), -1)
        self.assertEqual(LifeRow(None, (0,))((-1,)), -1)
        self.assertEqual(LifeRow(None, (0,))(lives=(60,)), 60)
        self.assertEqual(LifeRow(-1, ())(()), -1)
        for row in ROWS:
            for lives in itertools.product((-1, 0, 8, 59, 60), repeat=2):
                bounds = [life - entry for life, entry in zip(lives, row.lost) if entry is not None]
                bounds += [row.left] if row.left is not None else []
                self.assertEqual(row(lives), max(-1, min(bounds)))

    def test_minus(self):
        self.assertEqual(LifeRow(5, (None, 2)) - 0, LifeRow(5, (None, 2)))
        self.assertEqual(LifeRow(5, (None, 2)) - 3, LifeRow(2, (None, 5)))
        self.assertEqual(LifeRow(5, (None, 2)) - 6, LifeRow(-1, (None, 8)))
        self.assertEqual(LifeRow(None, (60, 61)) - 1, LifeRow(None, (61, 61)))
        for row in ROWS:
            for ticks in (0, 1, 59, 60, 61, 62, 10 ** 40):
                less = row - ticks
                left = None if row.left is None else max(-1, row.left - ticks)
                lost = tuple(None if entry is None else min(61, entry + ticks) for entry in row.lost)
                self.assertEqual((less.left, less.lost), (left, lost))
                if ticks <= 61:
                    for lives in ((60, 60), (9, 0), (-1, 60)):
                        self.assertEqual(less(lives), max(-1, row(lives) - ticks))

    def test_and(self):
        self.assertEqual(LifeRow(5, (None, 2)) & LifeRow(7, (1, 3)), LifeRow(5, (1, 3)))
        self.assertEqual(LifeRow(None, (0,)) & LifeRow(60, (None,)), LifeRow(60, (0,)))
        for one, two in itertools.product(ROWS, ROWS[::7]):
            both = one & two
            self.assertEqual(both, two & one)
            first, second = terms(one), terms(two)
            expected = {term: min(first.get(term, 99), second.get(term, 99)) for term in {**first, **second}}
            self.assertEqual(terms(both), expected)
            self.assertTrue(both.is_below(one) and both.is_below(two))

    def test_is_below(self):
        self.assertTrue(LifeRow(5, (1, None)).is_below(LifeRow(5, (1, None))))
        self.assertTrue(LifeRow(4, (2, 0)).is_below(other=LifeRow(5, (1, None))))
        self.assertFalse(LifeRow(6, (1, None)).is_below(LifeRow(5, (1, None))))
        self.assertFalse(LifeRow(5, (0, None)).is_below(LifeRow(5, (1, None))))
        self.assertFalse(LifeRow(None, (1, None)).is_below(LifeRow(5, (1, None))))
        self.assertFalse(LifeRow(5, (None, 0)).is_below(LifeRow(5, (1, None))))
        for one, two in itertools.product(ROWS, ROWS[::7]):
            first, second = terms(one), terms(two)
            expected = all(term in first and first[term] <= second[term] for term in second)
            self.assertIs(one.is_below(two), expected)

    def test_rows_never_change(self):
        chance = random.Random(31)
        for _ in range(200):
            one, two = draw_row(chance, 3), draw_row(chance, 3)
            before = (repr(one), repr(two))
            one - 3, one & two, one.is_below(two), one((1, 2, 3)), one == two
            self.assertEqual((repr(one), repr(two)), before)


if __name__ == "__main__":
    unittest.main()
