"""Life types, their plain forms, and standing for one another (points [2], [19], [22], [28])."""

import random
import unittest

from drawing import draw_type
from second import is_never, may_stand, value_of

from sourwright.lifetypes import LifeType
from sourwright.rows import LifeRow

MAKE = LifeType((8,), (3,), 6, (LifeRow(20, (None,)),))


def plain_of(one):
    """The plain form, rule by rule of [22]."""
    if is_never(one):
        return (one.keeps, (61,) * len(one.keeps), 60, (None,) * len(one.rows), True)
    rows = []
    for row in one.rows:
        if row is None:
            rows.append(None)
            continue
        left, lost = row.left, dict(enumerate(row.lost))
        for at in range(len(lost)):
            if lost[at] is not None and one.needs[at] == one.keeps[at]:
                bound = max(-1, one.keeps[at] - lost[at])
                left = bound if left is None else min(left, bound)
                lost[at] = None
        if value_of(LifeRow(left, tuple(lost.values())), one.keeps) < 1:
            rows.append(None)
            continue
        for at in range(len(lost)):
            if lost[at] is not None:
                others = [one.keeps[k] - lost[k] for k in lost if k != at and lost[k] is not None]
                least = min(others + ([left] if left is not None else []) or [61])
                if not one.needs[at] - lost[at] < least:
                    lost[at] = None
        ends = [one.keeps[k] - lost[k] for k in lost if lost[k] is not None]
        if ends and left is not None and not all(left < end for end in ends):
            left = None
        rows.append((left, tuple(lost.values())))
    return (one.keeps, one.needs, min(one.took, 60), tuple(rows), False)


def told(one):
    rows = tuple(None if row is None else (row.left, row.lost) for row in one.rows)
    return (one.keeps, one.needs, one.took, rows, one.sours)


class TypeTest(unittest.TestCase):
    def test_properties(self):
        row = LifeRow(20, (None,))
        self.assertEqual((MAKE.keeps, MAKE.needs, MAKE.took, MAKE.rows, MAKE.sours), ((8,), (3,), 6, (row,), False))
        self.assertIs(MAKE.is_never, False)
        one = LifeType(keeps=[8], needs=[61], took=61, rows=[None], sours=True)
        self.assertEqual((one.keeps, one.needs, one.took, one.rows, one.sours), ((8,), (61,), 61, (None,), True))
        for name in ("keeps", "needs", "took", "rows", "sours", "is_never"):
            with self.assertRaises(AttributeError):
                setattr(one, name, 1)
        keeps = [8]
        one = LifeType(keeps, (3,), 6, (row,))
        keeps[0] = 9
        self.assertEqual(one, MAKE)

    def test_repr(self):
        self.assertEqual(repr(MAKE), "LifeType((8,), (3,), 6, (LifeRow(20, (None,)),), False)")
        self.assertEqual(repr(LifeType.never((8, 0), 2)), "LifeType((8, 0), (61, 61), 60, (None, None), True)")
        self.assertEqual(repr(LifeType((), (), 0, ())), "LifeType((), (), 0, (), False)")

    def test_equality(self):
        row = LifeRow(20, (None,))
        self.assertEqual(LifeType([8], [3], 6, [row]), MAKE)
        self.assertFalse(LifeType([8], [3], 6, [row], sours=False) != MAKE)
        for other in (
            LifeType((9,), (3,), 6, (row,)), LifeType((8,), (4,), 6, (row,)), LifeType((8,), (3,), 5, (row,)),
            LifeType((8,), (3,), 6, (LifeRow(19, (None,)),)), LifeType((8,), (3,), 6, (None,)),
            LifeType((8,), (3,), 6, ()), LifeType((8,), (3,), 6, (row,), sours=True), row, None, repr(MAKE), ((8,), (3,)),
        ):
            self.assertFalse(MAKE == other)
            self.assertTrue(other != MAKE)

    def test_never(self):
        one = LifeType.never((8, 20), 1)
        self.assertEqual(told(one), ((8, 20), (61, 61), 60, (None,), True))
        self.assertEqual(LifeType.never(keeps=[8, 20], results=1), one)
        self.assertTrue(one.is_never)
        self.assertTrue(LifeType.never((), 0).is_never)

    def test_is_never(self):
        self.assertFalse(LifeType((8,), (8,), 0, ()).is_never)
        self.assertTrue(LifeType((8,), (9,), 0, ()).is_never)
        self.assertTrue(LifeType((60, 8), (61, -1), 0, ()).is_never)
        self.assertTrue(LifeType((8,), (-1,), 0, (), sours=True).is_never)
        self.assertFalse(LifeType((0, 60), (0, 60), 0, ()).is_never)

    def test_call(self):
        self.assertEqual(MAKE((3,)), (20,))
        self.assertIsNone(MAKE((2,)))
        one = LifeType((8, 8), (-1, 2), 3, (LifeRow(None, (1, 3)), None, LifeRow(5, (None, None))))
        self.assertEqual(one((-1, 2)), (-1, -1, 5))
        self.assertEqual(one(lives=[8, 8]), (5, -1, 5))
        self.assertIsNone(one((8, 1)))
        self.assertIsNone(LifeType((8,), (9,), 0, ())((8,)))
        self.assertIsNone(LifeType.never((), 1)(()))
        self.assertEqual(LifeType((), (), 0, ())(()), ())


class PlainTest(unittest.TestCase):
    def test_each_step(self):
        # 1: the entry of a parameter with one life goes into left.
        one = LifeType((8, 8), (8, 0), 3, (LifeRow(9, (2, None)), LifeRow(None, (2, 0)), LifeRow(None, (7, None))))
        self.assertEqual(one.plain().rows, (LifeRow(6, (None, None)), LifeRow(6, (None, 0)), LifeRow(1, (None, None))))
        # 2: what is good for no tick is nothing.
        one = LifeType((8,), (0,), 3, (LifeRow(0, (None,)), LifeRow(None, (8,)), LifeRow(1, (7,)), LifeRow(-1, (0,))))
        self.assertEqual(one.plain().rows, (None, None, LifeRow(None, (7,)), None))
        # 3: an entry that never is the least goes.
        one = LifeType((8, 8), (4, 4), 3, (LifeRow(3, (1, 0)), LifeRow(None, (1, 6)), LifeRow(None, (1, 1))))
        self.assertEqual(one.plain().rows, (LifeRow(3, (None, None)), LifeRow(None, (None, 6)), LifeRow(None, (1, 1))))
        # In order: of two that may each do without the other, the first one goes.
        one = LifeType((8, 5), (5, 4), 3, (LifeRow(1, (1, 0)),))
        self.assertEqual(one.plain().rows, (LifeRow(1, (None, None)),))
        # 4: left goes unless it is less than what all entries leave of the keeps.
        one = LifeType((8,), (0,), 3, (LifeRow(7, (1,)), LifeRow(6, (1,)), LifeRow(20, (1,))))
        self.assertEqual(one.plain().rows, (LifeRow(None, (1,)), LifeRow(6, (1,)), LifeRow(None, (1,))))
        one = LifeType((4, 2), (0, 0), 3, (LifeRow(3, (0, 0)), LifeRow(2, (0, 0)), LifeRow(1, (0, 0))))
        self.assertEqual(one.plain().rows, (LifeRow(None, (0, 0)), LifeRow(None, (0, 0)), LifeRow(1, (0, 0))))

    def test_took(self):
        for took, plain in ((0, 0), (59, 59), (60, 60), (61, 60)):
            self.assertEqual(LifeType((), (), took, ()).plain().took, plain)

    def test_never(self):
        self.assertEqual(LifeType((8,), (9,), 3, (LifeRow(5, (1,)),)).plain(), LifeType.never((8,), 1))
        self.assertEqual(LifeType((8,), (1,), 3, (LifeRow(5, (1,)),), sours=True).plain(), LifeType.never((8,), 1))

    def test_drawn(self):
        chance = random.Random(41)
        for one in drawn_types(chance, 3000):
            plain = one.plain()
            self.assertEqual(told(plain), plain_of(one))
            self.assertEqual(plain.plain(), plain)
            self.assertTrue(one.stands_for(plain) and plain.stands_for(one))


def drawn_types(chance, many):
    """Types whose numbers lie close together, so that each of them matters now and then."""
    for _ in range(many):
        params = chance.randrange(4)
        keeps = tuple(chance.choice((0, 1, 3, 5, 8, 60) if params < 2 else (0, 1, 2, 4)) for _ in range(params))
        yield draw_type(chance, keeps, chance.randrange(3), most=chance.choice((2, 5, 61)))


class StandsForTest(unittest.TestCase):
    def test_needs(self):
        for mine, need, may in ((3, 3, True), (2, 3, True), (4, 3, False), (-1, 0, True), (0, -1, False)):
            self.assertIs(LifeType((8,), (mine,), 0, ()).stands_for(LifeType((8,), (need,), 0, ())), may)

    def test_took(self):
        for mine, took, may in ((5, 5, True), (6, 5, False), (60, 59, False), (61, 60, True), (60, 61, True), (61, 59, False)):
            self.assertIs(LifeType((), (), mine, ()).stands_for(u=LifeType((), (), took, ())), may)

    def test_never(self):
        never, good = LifeType.never((8,), 0), LifeType((8,), (8,), 61, ())
        late = LifeType((8,), (9,), 0, ())
        self.assertEqual(
            [never.stands_for(never), never.stands_for(good), good.stands_for(never), late.stands_for(good),
             good.stands_for(late), late.stands_for(never), never.stands_for(late)],
            [True, False, True, False, True, True, True],
        )

    def test_rows(self):
        def stands(mine, row, needs=(0,)):
            return LifeType((8,), needs, 0, (mine,)).stands_for(LifeType((8,), needs, 0, (row,)))

        self.assertTrue(stands(None, LifeRow(0, (None,))))
        self.assertFalse(stands(None, LifeRow(1, (None,))))
        self.assertTrue(stands(LifeRow(0, (None,)), None))
        self.assertTrue(stands(LifeRow(-1, (None,)), LifeRow(60, (8,))))
        self.assertFalse(stands(LifeRow(-1, (None,)), LifeRow(60, (7,))))
        self.assertTrue(stands(LifeRow(5, (1,)), LifeRow(5, (2,))))
        self.assertFalse(stands(LifeRow(5, (2,)), LifeRow(5, (1,))))
        # The entry differs only where the lives are so low that left is not the least.
        self.assertTrue(stands(LifeRow(3, (2,)), LifeRow(3, (1,)), (5,)))
        self.assertFalse(stands(LifeRow(3, (2,)), LifeRow(3, (1,)), (4,)))

    def test_drawn(self):
        chance = random.Random(42)
        seen = {True: 0, False: 0}
        for one in drawn_types(chance, 2500):
            other = self.near(chance, one)
            self.assertIs(one.stands_for(other), may_stand(one, other))
            self.assertIs(other.stands_for(one), may_stand(other, one))
            both = one.stands_for(other) and other.stands_for(one)
            self.assertIs(one.plain() == other.plain(), both)
            seen[one.stands_for(other)] += 1
        self.assertGreater(min(seen.values()), 300)

    def near(self, chance, one):
        """A type with the same keeps and number of results, often with one number changed."""
        if chance.random() < 0.3:
            return draw_type(chance, one.keeps, len(one.rows))
        needs, took, rows = list(one.needs), one.took, list(one.rows)
        way = chance.randrange(4)
        if way == 0 and needs:
            at = chance.randrange(len(needs))
            needs[at] = max(-1, min(61, needs[at] + chance.choice((-1, 1))))
        elif way == 1:
            took = max(0, min(61, took + chance.choice((-1, 1))))
        elif rows:
            at = chance.randrange(len(rows))
            row = rows[at]
            if row is not None:
                rows[at] = row - chance.choice((0, 1)) if chance.random() < 0.5 else row & LifeRow(
                    chance.randrange(61), (None,) * len(needs))
        return LifeType(one.keeps, needs, took, rows, sours=one.sours)


if __name__ == "__main__":
    unittest.main()
