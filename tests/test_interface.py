"""The interface: modules, names, argument names, and where functions, classes and methods are defined."""

import inspect
import unittest

from samples import DAIRY

from sourwright import (
    blocks, code, compiling, desk, errors, flow, judging, lifetypes, lives, locations, mending, papers, parts, programs, rows,
    standing, stay, texts, workshop, world,
)

MEMBERS = {
    programs.Program: {
        "__init__": ("self", "kinds", "wells", "dishes", "procedures"),
        "__len__": ("self",),
        "__contains__": None,
        "__getitem__": None,
        "__eq__": None,
        "__repr__": ("self",),
        "keep_of": ("self", "kind"),
        "ticks_of": ("self", "name"),
        "with_procedure": ("self", "procedure"),
    },
    programs.Procedure: {
        "__len__": ("self",),
        "__eq__": None,
        "kind_of": ("self", "carrier"),
    },
    code.CodeProgram: {
        "__init__": ("self", "kinds", "wells", "dishes", "procedures"),
        "__len__": ("self",),
        "__contains__": None,
        "__getitem__": None,
        "__eq__": None,
        "__repr__": ("self",),
        "keep_of": ("self", "kind"),
        "ticks_of": ("self", "name"),
    },
    code.CodeProcedure: {
        "__len__": ("self",),
        "__eq__": None,
    },
}
MEMBERS[rows.LifeRow] = {
    "__init__": ("self", "left", "lost"), "__call__": ("self", "lives"), "__sub__": None, "__and__": None,
    "is_below": ("self", "other"), "__eq__": None, "__repr__": ("self",),
}
MEMBERS[lifetypes.LifeType] = {
    "__init__": ("self", "keeps", "needs", "took", "rows", "sours"), "__call__": ("self", "lives"), "plain": ("self",),
    "stands_for": ("self", "u"), "__eq__": None, "__repr__": ("self",),
}
MEMBERS[world.World] = {
    "__init__": ("self", "program", "name", "lives", "worths", "supply"), "step": ("self", "answer"), "undo": ("self",),
    "where": ("self",), "filled": ("self",), "resting": ("self",), "events": ("self", "answers"), "outcome": ("self",),
}
MEMBERS[parts.Part] = {"types": ("self",), "__str__": ("self",), "__eq__": None}
MEMBERS[workshop.Workshop] = {
    "__init__": ("self",), "put": ("self", "name", "text"), "drop": ("self", "name"), "undo": ("self",), "text": ("self", "name"),
    "__len__": ("self",), "build": ("self",), "trial": ("self",),
}
MEMBERS[workshop.Trial] = {"__enter__": ("self",), "__exit__": None, "keep": ("self",)}
MEMBERS[stay.Stay] = {
    "__init__": ("self", "world"), "forward": ("self", "answer"), "back": ("self",), "life": ("self", "name"), "chain": ("self", "name"),
}
MEMBERS[desk.Desk] = {"__init__": ("self",), "say": ("self", "command")}
FUNCTIONS = {
    flow.steps: ("procedure",),
    flow.flow: ("procedure",),
    flow.check_sound: ("program",),
    flow.written_out: ("program", "name"),
    world.check_start: ("program", "name", "lives"),
    world.run: ("program", "name", "lives", "answers", "worths", "supply"),
    texts.show_program: ("program",),
    lives.exact_type: ("program", "name"),
    lives.composed_type: ("program", "name", "types"),
    papers.table_of: ("program", "name", "types"),
    papers.table_holds: ("program", "name", "types", "u", "table"),
    papers.paper_of: ("program", "name"),
    papers.paper_holds: ("program", "name", "lives", "value"),
    judging.is_fresh: ("program", "name", "lives"),
    judging.judge: ("program", "name", "lives"),
    standing.stand_in: ("program", "p", "q"),
    standing.callers: ("program", "name"),
    mending.inserted: ("program", "name", "place", "step"),
    mending.mends: ("program", "name", "lives"),
    mending.rested: ("program", "name", "place", "later", "x"),
    locations.locations_hold: ("program", "code", "name", "value"),
    compiling.fewest_cups: ("program", "name"),
    compiling.compiled: ("program", "cups", "cold"),
    blocks.fewest_ticks: ("program", "name", "lives", "cups", "cold"),
    parts.link: ("parts",),
    workshop.within: ("block", "call"),
}
PROPERTIES = {
    rows.LifeRow: ("left", "lost"),
    lifetypes.LifeType: ("keeps", "needs", "took", "rows", "sours", "is_never"),
    world.World: ("tick",),
    programs.Program: ("kinds", "wells", "dishes", "procedures"),
    programs.Procedure: ("params", "results", "body", "names", "shelves"),
    code.CodeProgram: ("kinds", "wells", "dishes", "procedures"),
    code.CodeProcedure: ("params", "rows"),
    parts.Part: ("kinds", "wells", "dishes", "procedures", "uses"),
    workshop.Workshop: ("names", "read_count"),
    stay.Stay: ("world",),
}
NAMES = {
    errors: (
        "SourError", "InvalidProgram", "InvalidText", "InvalidStart", "TooLong", "InvalidCode", "NoRoom",
        "InvalidPart", "LinkRefused", "InvalidCommand", "Unfilled", "UnknownName",
    ),
    programs: ("Program", "Procedure", "Book"),
    code: ("CodeProgram", "CodeProcedure"),
    texts: ("show_program",),
    flow: ("steps", "flow", "check_sound", "written_out"),
    world: ("check_start", "World", "run"),
    rows: ("LifeRow",),
    lifetypes: ("LifeType",),
    lives: ("exact_type", "composed_type"),
    papers: ("table_of", "table_holds", "paper_of", "paper_holds"),
    judging: ("is_fresh", "judge"),
    standing: ("stand_in", "callers"),
    mending: ("inserted", "mends", "rested"),
    locations: ("locations_hold",),
    compiling: ("fewest_cups", "compiled"),
    blocks: ("fewest_ticks",),
    parts: ("Part", "link"),
    workshop: ("Workshop", "Trial", "within"),
    stay: ("Stay",),
    desk: ("Desk",),
}


class InterfaceTest(unittest.TestCase):
    def test_names_are_defined_in_their_files(self):
        for module, names in NAMES.items():
            for name in names:
                self.assertEqual(getattr(module, name).__module__, module.__name__)

    def test_methods_stand_in_their_classes(self):
        for owner, methods in MEMBERS.items():
            for name, parameters in methods.items():
                self.assertIn(name, vars(owner))
                if parameters is not None:
                    self.assertEqual(tuple(inspect.signature(vars(owner)[name]).parameters), parameters)

    def test_properties_stand_in_their_classes(self):
        for owner, names in PROPERTIES.items():
            for name in names:
                self.assertIsInstance(vars(owner)[name], property)

    def test_read_is_a_class_method(self):
        for owner in (programs.Program, parts.Part):
            self.assertIsInstance(vars(owner)["read"], classmethod)
            self.assertEqual(tuple(inspect.signature(owner.read).parameters), ("text",))

    def test_functions_take_their_arguments(self):
        for function, parameters in FUNCTIONS.items():
            self.assertEqual(tuple(inspect.signature(function).parameters), parameters)

    def test_arguments_by_name_alone(self):
        for function, names in (
            (world.run, ("worths", "supply")), (world.World, ("worths", "supply")), (lifetypes.LifeType, ("sours",)),
            (compiling.compiled, ("cups", "cold")), (blocks.fewest_ticks, ("cups", "cold")),
        ):
            for name, parameter in inspect.signature(function).parameters.items():
                self.assertEqual(parameter.kind is parameter.KEYWORD_ONLY, name in names)

    def test_never_is_a_static_method(self):
        self.assertIsInstance(vars(lifetypes.LifeType)["never"], staticmethod)
        self.assertEqual(tuple(inspect.signature(lifetypes.LifeType.never).parameters), ("keeps", "results"))

    def test_both_programs_are_books(self):
        self.assertTrue(issubclass(programs.Program, programs.Book))
        self.assertTrue(issubclass(code.CodeProgram, programs.Book))
        self.assertFalse(issubclass(code.CodeProgram, programs.Program))
        self.assertFalse(issubclass(programs.Program, code.CodeProgram))

    def test_code_programs_are_not_extended(self):
        self.assertFalse(hasattr(code.CodeProgram, "with_procedure"))


A = "part a\nkind m 20\nprocedure f x:m -> x\nwait 1\nend"
CODE, TABLES = compiling.compiled(DAIRY)
BLEND = lives.exact_type(DAIRY, "blend")
ROW = rows.LifeRow(5, (3, None))
STRAIGHT = programs.Program((("k", 9),), (), (), (("p", (("x", "k"),), (), (("wait", 2),)),))


def stays(answer):
    one = stay.Stay(world.World(DAIRY, "make", (8,)))
    one.forward(answer)
    return one


def shop_with_a():
    shop = workshop.Workshop()
    shop.put("a", A)
    return shop


def desk_with_a():
    one = desk.Desk()
    one.say("program kind m 1")
    return one


# Calls with all their arguments by name; those of methods are made of new objects each time.
CALLS = (
    (lambda: programs.Program, dict(kinds=DAIRY.kinds, wells=DAIRY.wells, dishes=DAIRY.dishes, procedures=DAIRY.procedures)),
    (lambda: code.CodeProgram, dict(kinds=CODE.kinds, wells=CODE.wells, dishes=CODE.dishes, procedures=CODE.procedures)),
    (lambda: programs.Program.read, dict(text="kind m 1")), (lambda: DAIRY.keep_of, dict(kind="milk")), (lambda: DAIRY.ticks_of, dict(name="cow")),
    (lambda: CODE.keep_of, dict(kind="milk")), (lambda: CODE.ticks_of, dict(name="press")),
    (lambda: DAIRY.with_procedure, dict(procedure=("f", (), (), ()))), (lambda: DAIRY["make"].kind_of, dict(carrier="y")),
    (lambda: flow.steps, dict(procedure=DAIRY["make"])), (lambda: flow.flow, dict(procedure=CODE["make"])),
    (lambda: flow.check_sound, dict(program=DAIRY)), (lambda: flow.written_out, dict(program=DAIRY, name="make")),
    (lambda: world.check_start, dict(program=DAIRY, name="blend", lives=(1, 2))),
    (lambda: world.World(program=DAIRY, name="make", lives=(3,)).step, dict(answer=True)),
    (lambda: world.run, dict(program=DAIRY, name="make", lives=(3,), answers=(True,))),
    (lambda: rows.LifeRow, dict(left=3, lost=(1, None))), (lambda: ROW, dict(lives=(7, 1))), (lambda: ROW.is_below, dict(other=ROW - 1)),
    (lambda: lifetypes.LifeType, dict(keeps=(3,), needs=(2,), took=1, rows=(None,))), (lambda: lifetypes.LifeType.never, dict(keeps=(3,), results=2)),
    (lambda: BLEND, dict(lives=(3, 4))), (lambda: BLEND.stands_for, dict(u=BLEND)),
    (lambda: lives.exact_type, dict(program=DAIRY, name="make")), (lambda: lives.composed_type, dict(program=DAIRY, name="make", types={})),
    (lambda: papers.table_of, dict(program=DAIRY, name="make", types={})),
    (lambda: papers.table_holds, dict(program=DAIRY, name="blend", types={}, u=BLEND, table=papers.table_of(DAIRY, "blend", {}))),
    (lambda: papers.paper_of, dict(program=DAIRY, name="make")),
    (lambda: papers.paper_holds, dict(program=DAIRY, name="make", lives=(3,), value=papers.paper_of(DAIRY, "make"))),
    (lambda: judging.is_fresh, dict(program=DAIRY, name="make", lives=(3,))), (lambda: judging.judge, dict(program=DAIRY, name="make", lives=(2,))),
    (lambda: standing.stand_in, dict(program=DAIRY.with_procedure(("slow",) + DAIRY.procedures[0][1:3] + (
        (("wait", 7), ("dish", "y", "press", "x")),)), p="slow", q="make")),
    (lambda: standing.callers, dict(program=DAIRY, name="make")),
    (lambda: mending.inserted, dict(program=DAIRY, name="make", place=2, step=("wait", 3))),
    (lambda: lambda *given, **named: list(mending.mends(*given, **named)), dict(program=DAIRY, name="make", lives=(2,))),
    (lambda: mending.rested, dict(program=DAIRY, name="make", place=0, later=3, x="x")),
    (lambda: texts.show_program, dict(program=DAIRY)),
    (lambda: locations.locations_hold, dict(program=DAIRY, code=CODE, name="make", value=TABLES[0])),
    (lambda: compiling.fewest_cups, dict(program=DAIRY, name="blend")), (lambda: compiling.compiled, dict(program=DAIRY)),
    (lambda: lambda program, name, lives: blocks.fewest_ticks(program, name, lives, cups=1, cold=0), dict(program=STRAIGHT, name="p", lives=(3,))),
    (lambda: parts.Part.read, dict(text=A)), (lambda: parts.link, dict(parts=(parts.Part.read(A),))),
    (lambda: shop_with_a().put, dict(name="b", text="no")), (lambda: shop_with_a().drop, dict(name="a")), (lambda: shop_with_a().text, dict(name="a")),
    (lambda: workshop.within, dict(block=shop_with_a().trial(), call=lambda given: 7)),
    (lambda: stays(True).forward, dict(answer=True)), (lambda: stays(False).life, dict(name="x")), (lambda: stays(False).chain, dict(name="x")),
    (lambda: desk_with_a().say, dict(command="show")),
)
# Those that must be passed by name, and may be left out but for the last ones.
BY_NAME = (
    (lambda **named: world.run(DAIRY, "make", (8,), (True,), **named), dict(worths=(3,), supply=lambda *given: 1), dict(worths=(1,), supply=None)),
    (lambda **named: world.World(DAIRY, "make", (8,), **named).filled(), dict(worths=(3,), supply=lambda *given: 1), dict(worths=(1,))),
    (lambda **named: lifetypes.LifeType((3,), (1,), 1, (), **named), dict(sours=True), dict(sours=False)),
    (lambda **named: compiling.compiled(DAIRY, **named), dict(cups=2, cold=0), dict(cups=8, cold=3)),
    (lambda **named: world.World(DAIRY, "make", (8,)).step(**named), dict(answer=True), dict(answer=None)),
    (lambda **named: stay.Stay(world.World(DAIRY, "make", (8,))).forward(**named), dict(answer=True), dict(answer=None)),
)


class ByNameTest(unittest.TestCase):
    def test_all_functions_are_there(self):
        called = {call() for call, _ in CALLS if inspect.isfunction(call())}
        for function in FUNCTIONS:
            if function not in (mending.mends, blocks.fewest_ticks):
                self.assertIn(function, called)

    def test_by_position_and_by_name_in_any_order(self):
        for call, named in CALLS:
            expected = call()(*named.values())
            self.assertEqual(call()(**named), expected)
            self.assertEqual(call()(**dict(reversed(named.items()))), expected)
            first, *others = named
            self.assertEqual(call()(named[first], **{name: named[name] for name in others[::-1]}), expected)

    def test_lists_for_tuples(self):
        for call, named in CALLS:
            if workshop.within != call():
                given = {name: list(value) if isinstance(value, tuple) and name not in ("procedure", "step") else value for name, value in named.items()}
                self.assertEqual(call()(**given), call()(**named))

    def test_errors_by_name(self):
        for name, attributes in (
            ("InvalidProgram", ("word", "procedure", "place")), ("InvalidText", ("line",)), ("InvalidStart", ("word", "index")),
            ("TooLong", ("steps",)), ("InvalidCode", ("word", "procedure", "row")), ("NoRoom", ("procedure", "number")),
            ("InvalidPart", ("word", "index")), ("LinkRefused", ("part", "used", "caller")), ("InvalidCommand", ()),
            ("Unfilled", ("procedure", "place", "carrier", "answers")), ("UnknownName", ("name",)),
        ):
            made = getattr(errors, name)(**{one: (at, one) for at, one in reversed(list(enumerate(attributes)))})
            self.assertEqual([getattr(made, one) for one in attributes], [(at, one) for at, one in enumerate(attributes)])

    def test_defaults(self):
        for call, named, defaults in BY_NAME:
            self.assertEqual(call(**dict(reversed(named.items()))), call(**named))
            self.assertEqual(call(), call(**defaults))
            for name in defaults:
                self.assertEqual(call(**{name: defaults[name]}), call())


if __name__ == "__main__":
    unittest.main()
