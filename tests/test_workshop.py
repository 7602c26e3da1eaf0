"""The workshop, its trials, and blocks (points [45] to [47], [49])."""

import random
import unittest

from drawing import draw_sound
from parting import cut, raised
from test_parts import A, B, renamed

from sourwright.errors import InvalidPart, InvalidProgram, InvalidText, LinkRefused, UnknownName
from sourwright.parts import Part, link
from sourwright.workshop import Trial, Workshop, within

C = "part c\nkind m 20\nuse g m:-1 -> m:-:2 2\nprocedure h ->\nwait 1\nend"
BAD = ("", "part", "part a", "part a\nkind m 61", "part a\nkind m 1\nno", "part a\nkind m 1\nuse f -> 1\nuse f -> 1",
       "part a\nkind m 1\nprocedure f -> x\nend", "part a\nkind m 1\nprocedure f ->\ntake x s\nend")


def shop_with(**texts):
    shop = Workshop()
    for name, text in texts.items():
        shop.put(name, text)
    return shop


def state(shop):
    return [(name, shop.text(name)) for name in shop.names]


class Fault(Exception):
    pass


class DeedsTest(unittest.TestCase):
    def test_example(self):
        shop = Workshop()
        self.assertEqual((shop.put("a", A), shop.put("b", B)), (None, None))
        self.assertEqual(
            (len(shop.build()), shop.read_count, shop.undo(), shop.names, shop.read_count), (2, 2, True, ("a",), 2),
        )

    def test_empty(self):
        shop = Workshop()
        self.assertEqual((shop.names, len(shop), shop.read_count, shop.undo()), ((), 0, 0, False))

    def test_order_of_names(self):
        shop = shop_with(c=C, a=A, b=B)
        self.assertEqual((shop.names, len(shop)), (("c", "a", "b"), 3))
        shop.put("a", "other")
        self.assertEqual((shop.names, shop.text("a")), (("c", "a", "b"), "other"))
        self.assertIsNone(shop.drop("c"))
        self.assertEqual((shop.names, len(shop)), (("a", "b"), 2))
        shop.put("c", C)
        self.assertEqual(shop.names, ("a", "b", "c"))
        self.assertEqual((shop.text(name="b"), shop.drop(name="b"), shop.put(text="x", name="d")), (B, None, None))
        self.assertEqual(shop.names, ("a", "c", "d"))

    def test_any_text(self):
        shop = Workshop()
        for text in ("", " ", "\n", "no part", A):
            shop.put("a", text)
            self.assertEqual(shop.text("a"), text)

    def test_errors_of_names(self):
        shop = shop_with(a=A)
        for name in ("", "if", "part", "A", "sevenly", "a1", None, 3, True, ("a",), ["a"]):
            with self.assertRaises(InvalidPart) as caught:
                shop.put(name, A)
            self.assertEqual((caught.exception.word, caught.exception.index), ("name", 0))
        for name in ("b", "", "if", None):
            for call in (shop.drop, shop.text):
                with self.assertRaises(UnknownName) as caught:
                    call(name)
                self.assertEqual(caught.exception.name, name)
        self.assertEqual(state(shop), [("a", A)])
        self.assertEqual((shop.undo(), shop.undo()), (True, False))

    def test_undo(self):
        shop = shop_with(a="1", b="2")
        shop.put("a", "3")
        shop.drop("b")
        shop.put("b", "4")
        self.assertEqual(state(shop), [("a", "3"), ("b", "4")])
        for expected in (
            [("a", "3")], [("a", "3"), ("b", "2")], [("a", "1"), ("b", "2")], [("a", "1")], [],
        ):
            self.assertIs(shop.undo(), True)
            self.assertEqual(state(shop), expected)
        self.assertIs(shop.undo(), False)

    def test_undo_gives_names_back_where_they_were(self):
        shop = shop_with(a="1", b="2", c="3")
        shop.drop("a")
        shop.put("a", "1")
        self.assertEqual(shop.names, ("b", "c", "a"))
        shop.undo()
        shop.undo()
        self.assertEqual(shop.names, ("a", "b", "c"))

    def test_undo_behind_undo(self):
        shop = shop_with(a="1")
        shop.put("a", "2")
        shop.undo()
        shop.put("a", "3")
        shop.undo()
        self.assertEqual(state(shop), [("a", "1")])

    def test_a_put_of_the_same_text_is_a_deed(self):
        shop = shop_with(a="1")
        shop.put("a", "1")
        self.assertEqual([shop.undo() for _ in range(3)], [True, True, False])


class BuildTest(unittest.TestCase):
    def test_the_same_as_linking(self):
        shop = shop_with(a=A, b=B)
        self.assertEqual(shop.build(), link((Part.read(A), Part.read(B))))
        self.assertEqual(shop.build(), shop.build())

    def test_without_parts(self):
        shop = Workshop()
        self.assertEqual(raised(shop.build), ("program", "kinds", -1, 0))
        self.assertEqual(shop.read_count, 0)

    def test_errors_in_order(self):
        for texts, expected, count in (
            ({"a": ""}, ("line", 0), 0), ({"a": BAD[3]}, ("program", "keep", -1, 0), 0), ({"a": BAD[5]}, ("use", 1), 0),
            ({"a": BAD[6]}, ("program", "result", 0, -1), 0), ({"a": A, "b": "part b\nkind m 61"}, ("program", "keep", -1, 0), 1),
            # A part of another name, once it is read; then no text behind it is read.
            ({"b": A}, ("name", 0), 1), ({"a": A, "c": B}, ("name", 1), 2), ({"b": A, "c": ""}, ("name", 0), 1),
            ({"b": "", "a": B}, ("line", 0), 0), ({"a": A, "c": "", "b": A}, ("line", 0), 1),
            # Linking comes behind all reading.
            ({"b": B}, ("missing", 0), 1), ({"b": B, "a": A}, ("missing", 0), 2), ({"b": B, "a": ""}, ("line", 0), 1),
            ({"a": A, "b": renamed(A, "b")}, ("procedure", 1), 2), ({"a": A, "b": renamed(A, "b").replace("20", "21")}, ("clash", 1), 2),
            ({"a": A, "b": B.replace("1 1", "1 0")}, ("refused", "b", "f"), 2),
        ):
            shop = shop_with(**texts)
            before = state(shop)
            for _ in range(2):
                self.assertEqual(raised(shop.build), expected, texts)
                self.assertEqual((shop.read_count, state(shop)), (count, before), texts)

    def test_a_name_that_was_read_before(self):
        shop = shop_with(a=A)
        shop.build()
        shop.put("b", A)
        self.assertEqual((raised(shop.build), shop.read_count), (("name", 1), 1))

    def test_each_text_counts_once(self):
        shop = shop_with(a=A, b=B)
        shop.build()
        shop.build()
        self.assertEqual(shop.read_count, 2)
        shop.drop("b")
        shop.build()
        shop.put("b", B)
        shop.build()
        self.assertEqual(shop.read_count, 2)
        shop.put("b", B.replace("1 1", "1 2"))
        shop.build()
        self.assertEqual(shop.read_count, 3)
        shop.undo()
        shop.build()
        self.assertEqual(shop.read_count, 3)
        shop.put("a", BAD[0])
        self.assertEqual(raised(shop.build), ("line", 0))
        self.assertEqual(shop.read_count, 3)
        shop.put("a", renamed(A, "d"))
        self.assertEqual(raised(shop.build), ("name", 0))
        self.assertEqual(shop.read_count, 4)
        shop.drop("a")
        shop.put("d", renamed(A, "d"))
        self.assertEqual(raised(shop.build), ("missing", 0))
        self.assertEqual(shop.read_count, 4)

    def test_texts_that_were_not_built_do_not_count(self):
        shop = shop_with(a=A, b=B)
        shop.drop("b")
        shop.build()
        self.assertEqual(shop.read_count, 1)
        other = Workshop()
        self.assertEqual(other.read_count, 0)


class TrialTest(unittest.TestCase):
    def test_what_as_gives(self):
        shop = Workshop()
        trial = shop.trial()
        self.assertIs(type(trial), Trial)
        with trial as given:
            self.assertIs(given, trial)

    def test_taken_back(self):
        shop = shop_with(a="1", b="2")
        with shop.trial():
            shop.put("c", "3")
            shop.drop("a")
            shop.put("a", "4")
            self.assertEqual(state(shop), [("b", "2"), ("c", "3"), ("a", "4")])
        self.assertEqual(state(shop), [("a", "1"), ("b", "2")])
        self.assertEqual([shop.undo() for _ in range(3)], [True, True, False])

    def test_kept(self):
        shop = shop_with(a="1")
        with shop.trial() as trial:
            shop.put("b", "2")
            self.assertIsNone(trial.keep())
            shop.drop("a")
        self.assertEqual(state(shop), [("b", "2")])
        for expected in ([("a", "1"), ("b", "2")], [("a", "1")], []):
            self.assertIs(shop.undo(), True)
            self.assertEqual(state(shop), expected)
        self.assertIs(shop.undo(), False)

    def test_kept_by_its_own_block_alone(self):
        shop = shop_with(a="1")
        trial = shop.trial()
        trial.keep()
        with trial:
            shop.put("b", "2")
        self.assertEqual(state(shop), [("a", "1")])
        trial.keep()
        self.assertEqual(state(shop), [("a", "1")])
        with shop.trial() as outer:
            shop.put("b", "2")
            with shop.trial():
                shop.put("c", "3")
                outer.keep()
            self.assertEqual(state(shop), [("a", "1"), ("b", "2")])
        self.assertEqual(state(shop), [("a", "1"), ("b", "2")])

    def test_errors_are_passed_on(self):
        shop = shop_with(a="1")
        for is_kept in (False, True):
            fault = Fault("no")
            with self.assertRaises(Fault) as caught:
                with shop.trial() as trial:
                    shop.put("b", "2")
                    if is_kept:
                        trial.keep()
                    raise fault
            self.assertIs(caught.exception, fault)
            self.assertEqual(state(shop), [("a", "1")])
            self.assertEqual((shop.undo(), shop.undo(), shop.put("a", "1")), (True, False, None))

    def test_undo_within(self):
        shop = shop_with(a="1", b="2")
        with shop.trial():
            self.assertIs(shop.undo(), False)
            shop.put("c", "3")
            self.assertEqual((shop.undo(), shop.undo()), (True, False))
            self.assertEqual(state(shop), [("a", "1"), ("b", "2")])
        self.assertIs(shop.undo(), True)
        self.assertEqual(state(shop), [("a", "1")])

    def test_undo_within_a_block_that_is_kept(self):
        shop = shop_with(a="1")
        with shop.trial() as trial:
            shop.put("b", "2")
            shop.put("c", "3")
            shop.undo()
            trial.keep()
        self.assertEqual(state(shop), [("a", "1"), ("b", "2")])
        self.assertEqual((shop.undo(), state(shop)), (True, [("a", "1")]))

    def test_nested(self):
        for outer_keeps in (False, True):
            for inner_keeps in (False, True):
                shop = shop_with(a="1")
                with shop.trial() as outer:
                    shop.put("b", "2")
                    with shop.trial() as inner:
                        self.assertIs(shop.undo(), False)
                        shop.put("c", "3")
                        if inner_keeps:
                            inner.keep()
                    self.assertEqual(shop.names, ("a", "b", "c") if inner_keeps else ("a", "b"))
                    # What the inner block left can be taken back in the outer one, but nothing before that.
                    self.assertIs(shop.undo(), True)
                    self.assertEqual(shop.names, ("a", "b") if inner_keeps else ("a",))
                    self.assertIs(shop.undo(), inner_keeps)
                    self.assertEqual((shop.names, shop.undo()), (("a",), False))
                    shop.put("d", "4")
                    if outer_keeps:
                        outer.keep()
                self.assertEqual(shop.names, ("a", "d") if outer_keeps else ("a",))

    def test_builds_within(self):
        shop = shop_with(a=A)
        with shop.trial():
            shop.put("b", B)
            self.assertEqual(len(shop.build()), 2)
        self.assertEqual((shop.names, shop.read_count, len(shop.build())), (("a",), 2, 1))
        with self.assertRaises(LinkRefused):
            with shop.trial():
                shop.put("b", B.replace("1 1", "1 0"))
                shop.build()
        self.assertEqual((shop.names, shop.read_count), (("a",), 3))
        with shop.trial() as trial:
            shop.put("b", B)
            trial.keep()
        self.assertEqual((len(shop.build()), shop.read_count), (2, 3))


class WithinTest(unittest.TestCase):
    def test_returns_what_the_call_returns(self):
        shop = shop_with(a=A)
        trial = shop.trial()
        told = []

        def call(given):
            told.append(given)
            shop.put("b", B)
            return (len(shop.build()), shop.undo())

        self.assertEqual(within(trial, call), (2, True))
        self.assertIs(told[0], trial)
        self.assertEqual(state(shop), [("a", A)])
        found = object()
        self.assertIs(within(call=lambda given: found, block=shop.trial()), found)
        self.assertIsNone(within(shop.trial(), lambda given: None))

    def test_keeps(self):
        shop = shop_with(a=A)

        def call(given):
            shop.put("b", B)
            given.keep()

        within(shop.trial(), call)
        self.assertEqual(shop.names, ("a", "b"))

    def test_errors_are_passed_on(self):
        shop = shop_with(a=A)
        for error in (Fault(1), KeyError(2), InvalidText(3), UnknownName("x")):
            def call(given):
                shop.put("b", B)
                given.keep()
                raise error

            with self.assertRaises(type(error)) as caught:
                within(shop.trial(), call)
            self.assertIs(caught.exception, error)
            self.assertEqual(state(shop), [("a", A)])

    def test_nested(self):
        shop = Workshop()

        def inner(given):
            shop.put("b", "2")
            given.keep()
            return shop.names

        def outer(given):
            shop.put("a", "1")
            return (within(shop.trial(), inner), shop.undo(), shop.names)

        self.assertEqual(within(shop.trial(), outer), (("a", "b"), True, ("a",)))
        self.assertEqual(shop.names, ())


class Second:
    """A workshop by lists of pairs: all states are kept, and blocks remember where they began."""

    def __init__(self):
        self.states = [[]]
        self.floors = [1]
        self.read = []

    def put(self, name, text):
        now = list(self.states[-1])
        spots = [at for at, (one, _) in enumerate(now) if one == name]
        if spots:
            now[spots[0]] = (name, text)
        else:
            now.append((name, text))
        self.states.append(now)

    def drop(self, name):
        self.states.append([pair for pair in self.states[-1] if pair[0] != name])

    def undo(self):
        if len(self.states) <= self.floors[-1]:
            return False
        self.states.pop()
        return True

    def build(self):
        """What a new workshop with these texts gives, and what is read by it."""
        parts = []
        for index, (name, text) in enumerate(self.states[-1]):
            try:
                part = Part.read(text)
            except (InvalidText, InvalidProgram, InvalidPart) as error:
                return raised(Part.read, text) or error
            if text not in self.read:
                self.read.append(text)
            if part.name != name:
                return ("name", index)
            parts.append(part)
        return raised(link, tuple(parts)) or link(tuple(parts))


class DrawnTest(unittest.TestCase):
    def deed(self, chance, shop, second, texts, depth):
        names = ("a", "b", "c")
        way = chance.choice(("put", "put", "put", "put", "drop", "undo", "build", "trial"))
        if way == "put":
            name = chance.choice(names)
            fitting = [one for one in texts if one.startswith(f"part {name}\n")] if chance.random() < 0.85 else []
            text = chance.choice(fitting or texts)
            shop.put(name, text)
            second.put(name, text)
        elif way == "drop":
            name = chance.choice(names)
            if name in shop.names:
                shop.drop(name)
                second.drop(name)
            else:
                self.assertRaises(UnknownName, shop.drop, name)
        elif way == "undo":
            self.assertIs(shop.undo(), second.undo())
        elif way == "build":
            self.check_build(shop, second)
        elif depth < 3:
            self.trial(chance, shop, second, texts, depth)
        self.assertEqual(state(shop), second.states[-1])
        self.assertEqual(shop.read_count, len(second.read))
        self.assertEqual(len(shop), len(second.states[-1]))

    def check_build(self, shop, second):
        expected = second.build()
        told = raised(shop.build)
        self.assertEqual(told if told is not None else shop.build(), expected)
        self.builds[told and told[0]] = self.builds.get(told and told[0], 0) + 1

    def trial(self, chance, shop, second, texts, depth):
        before = [list(one) for one in second.states]
        is_kept, fails = chance.random() < 0.5, chance.random() < 0.3
        second.floors.append(len(second.states))
        try:
            with shop.trial() as trial:
                for _ in range(chance.randrange(6)):
                    self.deed(chance, shop, second, texts, depth + 1)
                if is_kept:
                    trial.keep()
                for _ in range(chance.randrange(3)):
                    self.deed(chance, shop, second, texts, depth + 1)
                if fails:
                    raise Fault()
        except Fault:
            self.assertTrue(fails)
        second.floors.pop()
        if fails or not is_kept:
            second.states = before

    def with_better_uses(self, text):
        lines = [line[:line.rindex(" ")] + " 0" if line.startswith("use") else line for line in text.split("\n")]
        return "\n".join(lines)

    def test_drawn_deeds(self):
        chance = random.Random(81)
        self.builds = {}
        for _ in range(60):
            texts = list(BAD)
            for _ in range(chance.choice((1, 1, 2))):
                texts += [str(part) for part in cut(chance, draw_sound(chance, procedures=3, size=5))] * 4
            texts += [renamed(text, chance.choice("abc")) for text in texts if text.startswith("part a\nkind")]
            texts += [self.with_better_uses(text) for text in texts if "\nuse" in text]
            if chance.random() < 0.3:
                texts = [A, B, C, B.replace("1 1", "1 0"), C.replace("2 2", "2 1"), renamed(A, "b"), BAD[0]]
            shop, second = Workshop(), Second()
            for _ in range(60):
                self.deed(chance, shop, second, texts, 0)
            while second.undo():
                self.assertIs(shop.undo(), True)
                self.assertEqual(state(shop), second.states[-1])
            self.assertIs(shop.undo(), False)
        self.assertLessEqual({None, "line", "name", "missing", "refused", "program", "clash", "procedure"}, set(self.builds))


if __name__ == "__main__":
    unittest.main()
