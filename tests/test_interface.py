"""The interface: modules, names, argument names, and where functions, classes and methods are defined."""

import inspect
import unittest

from sourwright import (
    blocks, code, compiling, errors, flow, judging, lifetypes, lives, locations, mending, papers, programs, rows, standing,
    texts, world,
)

MEMBERS = {
    programs.Program: {
        "__init__": ("self", "kinds", "wells", "dishes", "procedures"),
        "__len__": ("self",),
        "__contains__": None,
        "__getitem__": None,
        "__eq__": None,
        "__repr__": ("self",),
        "keep_of": ("self", "kind"),
        "ticks_of": ("self", "name"),
        "with_procedure": ("self", "procedure"),
    },
    programs.Procedure: {
        "__len__": ("self",),
        "__eq__": None,
        "kind_of": ("self", "carrier"),
    },
    code.CodeProgram: {
        "__init__": ("self", "kinds", "wells", "dishes", "procedures"),
        "__len__": ("self",),
        "__contains__": None,
        "__getitem__": None,
        "__eq__": None,
        "__repr__": ("self",),
        "keep_of": ("self", "kind"),
        "ticks_of": ("self", "name"),
    },
    code.CodeProcedure: {
        "__len__": ("self",),
        "__eq__": None,
    },
}
MEMBERS[rows.LifeRow] = {
    "__init__": ("self", "left", "lost"), "__call__": ("self", "lives"), "__sub__": None, "__and__": None,
    "is_below": ("self", "other"), "__eq__": None, "__repr__": ("self",),
}
MEMBERS[lifetypes.LifeType] = {
    "__init__": ("self", "keeps", "needs", "took", "rows", "sours"), "__call__": ("self", "lives"), "plain": ("self",),
    "stands_for": ("self", "u"), "__eq__": None, "__repr__": ("self",),
}
MEMBERS[world.World] = {
    "__init__": ("self", "program", "name", "lives", "worths", "supply"), "step": ("self", "answer"), "undo": ("self",),
    "where": ("self",), "filled": ("self",), "resting": ("self",), "events": ("self", "answers"), "outcome": ("self",),
}
FUNCTIONS = {
    flow.steps: ("procedure",),
    flow.flow: ("procedure",),
    flow.check_sound: ("program",),
    flow.written_out: ("program", "name"),
    world.check_start: ("program", "name", "lives"),
    world.run: ("program", "name", "lives", "answers", "worths", "supply"),
    texts.show_program: ("program",),
    lives.exact_type: ("program", "name"),
    lives.composed_type: ("program", "name", "types"),
    papers.table_of: ("program", "name", "types"),
    papers.table_holds: ("program", "name", "types", "u", "table"),
    papers.paper_of: ("program", "name"),
    papers.paper_holds: ("program", "name", "lives", "value"),
    judging.is_fresh: ("program", "name", "lives"),
    judging.judge: ("program", "name", "lives"),
    standing.stand_in: ("program", "p", "q"),
    standing.callers: ("program", "name"),
    mending.inserted: ("program", "name", "place", "step"),
    mending.mends: ("program", "name", "lives"),
    mending.rested: ("program", "name", "place", "later", "x"),
    locations.locations_hold: ("program", "code", "name", "value"),
    compiling.fewest_cups: ("program", "name"),
    compiling.compiled: ("program", "cups", "cold"),
    blocks.fewest_ticks: ("program", "name", "lives", "cups", "cold"),
}
PROPERTIES = {
    rows.LifeRow: ("left", "lost"),
    lifetypes.LifeType: ("keeps", "needs", "took", "rows", "sours", "is_never"),
    world.World: ("tick",),
    programs.Program: ("kinds", "wells", "dishes", "procedures"),
    programs.Procedure: ("params", "results", "body", "names", "shelves"),
    code.CodeProgram: ("kinds", "wells", "dishes", "procedures"),
    code.CodeProcedure: ("params", "rows"),
}
NAMES = {
    errors: (
        "SourError", "InvalidProgram", "InvalidText", "InvalidStart", "TooLong", "InvalidCode", "NoRoom",
        "InvalidPart", "LinkRefused", "InvalidCommand", "Unfilled", "UnknownName",
    ),
    programs: ("Program", "Procedure", "Book"),
    code: ("CodeProgram", "CodeProcedure"),
    texts: ("show_program",),
    flow: ("steps", "flow", "check_sound", "written_out"),
    world: ("check_start", "World", "run"),
    rows: ("LifeRow",),
    lifetypes: ("LifeType",),
    lives: ("exact_type", "composed_type"),
    papers: ("table_of", "table_holds", "paper_of", "paper_holds"),
    judging: ("is_fresh", "judge"),
    standing: ("stand_in", "callers"),
    mending: ("inserted", "mends", "rested"),
    locations: ("locations_hold",),
    compiling: ("fewest_cups", "compiled"),
    blocks: ("fewest_ticks",),
}


class InterfaceTest(unittest.TestCase):
    def test_names_are_defined_in_their_files(self):
        for module, names in NAMES.items():
            for name in names:
                self.assertEqual(getattr(module, name).__module__, module.__name__)

    def test_methods_stand_in_their_classes(self):
        for owner, methods in MEMBERS.items():
            for name, parameters in methods.items():
                self.assertIn(name, vars(owner))
                if parameters is not None:
                    self.assertEqual(tuple(inspect.signature(vars(owner)[name]).parameters), parameters)

    def test_properties_stand_in_their_classes(self):
        for owner, names in PROPERTIES.items():
            for name in names:
                self.assertIsInstance(vars(owner)[name], property)

    def test_read_is_a_class_method(self):
        read = vars(programs.Program)["read"]
        self.assertIsInstance(read, classmethod)
        self.assertEqual(tuple(inspect.signature(programs.Program.read).parameters), ("text",))

    def test_functions_take_their_arguments(self):
        for function, parameters in FUNCTIONS.items():
            self.assertEqual(tuple(inspect.signature(function).parameters), parameters)

    def test_arguments_by_name_alone(self):
        for function, names in (
            (world.run, ("worths", "supply")), (world.World, ("worths", "supply")), (lifetypes.LifeType, ("sours",)),
            (compiling.compiled, ("cups", "cold")), (blocks.fewest_ticks, ("cups", "cold")),
        ):
            for name, parameter in inspect.signature(function).parameters.items():
                self.assertEqual(parameter.kind is parameter.KEYWORD_ONLY, name in names)

    def test_never_is_a_static_method(self):
        self.assertIsInstance(vars(lifetypes.LifeType)["never"], staticmethod)
        self.assertEqual(tuple(inspect.signature(lifetypes.LifeType.never).parameters), ("keeps", "results"))

    def test_both_programs_are_books(self):
        self.assertTrue(issubclass(programs.Program, programs.Book))
        self.assertTrue(issubclass(code.CodeProgram, programs.Book))
        self.assertFalse(issubclass(code.CodeProgram, programs.Program))
        self.assertFalse(issubclass(programs.Program, code.CodeProgram))

    def test_code_programs_are_not_extended(self):
        self.assertFalse(hasattr(code.CodeProgram, "with_procedure"))


if __name__ == "__main__":
    unittest.main()
