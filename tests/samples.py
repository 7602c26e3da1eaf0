"""Programs and helpers that several test files share."""

from sourwright.code import CodeProgram
from sourwright.errors import InvalidCode, InvalidProgram, InvalidText
from sourwright.programs import Program

MAKE = (
    "make", (("x", "milk"),), ("y",),
    (("if", (("get", "x", "cow"),), (("wait", 2),)), ("dish", "y", "press", "x")),
)
BLEND = ("blend", (("a", "milk"), ("b", "milk")), ("c",), (("mix", "c", "+", "a", "b"),))
KINDS = (("milk", 8), ("curd", 20))
WELLS = (("cow", "milk", 2),)
DISHES = (("press", "milk", "curd", 3),)
DAIRY = Program(KINDS, WELLS, DISHES, (MAKE, BLEND))

# Every form of step, with its operands as results here and there.
ALL_FORMS = (
    "all", (("a", "milk"), ("b", "milk")), ("z", "a", "z"),
    (
        ("get", "z", "cow"),
        ("mix", "z", "-", "a", "z"),
        ("scale", "z", "z", -9),
        ("dish", "q", "press", "a"),
        ("copy", "c", "b"),
        ("wait", 60),
        ("put", "s", "a"),
        ("while", (("if", (), (("wait", 1),)), ("while", ()))),
        ("take", "a", "s"),
        ("call", "blend", ("a", "a"), ("a",)),
        ("call", "none", (), ()),
        ("if", (("call", "many", (), ("m", "n")),), ()),
    ),
)
NONE = ("none", (), (), ())
MANY = ("many", (), ("x", "x"), (("get", "x", "cow"),))
FULL = Program(KINDS, WELLS, DISHES, (MAKE, BLEND, NONE, MANY, ALL_FORMS))


def nested(bodies):
    """A body whose innermost `while` stands within so many bodies less one."""
    body = ()
    for _ in range(bodies):
        body = (("while", body),)
    return body


def program_fault(kinds, wells, dishes, procedures):
    """The word, the procedure and the place of the error that a program raises, or None."""
    try:
        Program(kinds, wells, dishes, procedures)
    except InvalidProgram as error:
        return (error.word, error.procedure, error.place)
    return None


def text_fault(text):
    """The line of the error in a text, or the values of the error in its program, or None."""
    try:
        Program.read(text)
    except InvalidText as error:
        return error.line
    except InvalidProgram as error:
        return (error.word, error.procedure, error.place)
    return None


def code_fault(kinds, wells, dishes, procedures):
    """The class of the error that a code program raises, with its values, or None."""
    try:
        CodeProgram(kinds, wells, dishes, procedures)
    except InvalidProgram as error:
        return ("program", error.word, error.procedure, error.place)
    except InvalidCode as error:
        return (error.word, error.procedure, error.row)
    return None


# Words that commands are changed by.
TEXT_WORDS = (
    "make", "blend", "none", "nope", "x", "if", "use", "sevenly", "A", "", "0", "3", "-1", "03", "-0", "12345", "9999", "y", "n", "yn",
    "ynx", "-", "->", ";", "show", "life", "fresh", "run", "judge", "stand", "cups", "program", "kind",
)
