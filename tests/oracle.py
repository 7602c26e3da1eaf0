"""A second way to read texts, by patterns and a stack, to hold the first one against."""

import re

from sourwright.errors import InvalidProgram
from sourwright.programs import Program

WORD = r"(?!(?:if|else|end|while|get|mix|scale|dish|copy|wait|put|take|call|kind|well|part|use)(?![a-z]))[a-z]{1,6}"
NUMBER = r"(?:0|-?[1-9][0-9]{0,3})"
SECTIONS = (
    re.compile(f"kind ({WORD}) ({NUMBER})"),
    re.compile(f"well ({WORD}) ({WORD}) ({NUMBER})"),
    re.compile(f"dish ({WORD}) ({WORD}) ({WORD}) ({NUMBER})"),
)
HEAD = re.compile(f"procedure ({WORD})((?: {WORD}:{WORD})*) ->((?: {WORD})*)")
STEPS = (
    re.compile(f"(get) ({WORD}) ({WORD})"),
    re.compile(f"(mix) ({WORD}) ({WORD}) ([+-]) ({WORD})"),
    re.compile(f"(scale) ({WORD}) ({WORD}) ({NUMBER})"),
    re.compile(f"(dish) ({WORD}) ({WORD}) ({WORD})"),
    re.compile(f"(copy|put|take) ({WORD}) ({WORD})"),
    re.compile(f"(wait) ({NUMBER})"),
)
CALL = re.compile(f"call ({WORD})((?: {WORD})*) ->((?: {WORD})*)")


def number(word):
    return int(word) if re.fullmatch(NUMBER, word) else word


class Oracle:
    def __init__(self):
        self.parts = ([], [], [])
        self.procedures = []
        self.section = 0
        # Each open thing is a word, what it begins with, and the list that its steps go to.
        self.stack = []

    def take_line(self, line):
        """Takes a line in; returns whether it is right."""
        if not self.stack:
            return self.take_outside(line)
        word, begun, body = self.stack[-1]
        if line in ("if", "while"):
            if len(self.stack) > 8:
                return False
            self.stack.append((line, (line,), []))
            return True
        if line == "else" and word == "if":
            self.stack[-1] = ("else", begun + (tuple(body),), [])
            return True
        if line == "end" and word != "if":
            self.stack.pop()
            (self.stack[-1][2] if self.stack else self.procedures).append(begun + (tuple(body),))
            return True
        step = self.step_of(line)
        if step is not None:
            body.append(step)
        return step is not None

    def take_outside(self, line):
        for section in range(self.section, 3):
            match = SECTIONS[section].fullmatch(line)
            if match:
                self.section = section
                self.parts[section].append(tuple(number(word) for word in match.groups()))
                return True
        match = HEAD.fullmatch(line)
        if not match:
            return False
        self.section = 3
        name, params, results = match.groups()
        params = tuple(tuple(param.split(":")) for param in params.split())
        self.stack.append(("procedure", (name, params, tuple(results.split())), []))
        return True

    def step_of(self, line):
        match = CALL.fullmatch(line)
        if match:
            name, args, results = match.groups()
            return ("call", name, tuple(args.split()), tuple(results.split()))
        for pattern in STEPS:
            match = pattern.fullmatch(line)
            if match:
                words = tuple(number(word) for word in match.groups())
                return words if words[0] != "mix" else ("mix", words[1], words[3], words[2], words[4])
        return None


def expected(text):
    """What a text is expected to give: ("line", n), or ("program", the fault or the program)."""
    oracle = Oracle()
    lines = text.split("\n")
    for index, line in enumerate(lines):
        if not oracle.take_line(line):
            return ("line", index)
    if oracle.stack:
        return ("line", len(lines))
    parts = tuple(tuple(part) for part in oracle.parts) + (tuple(oracle.procedures),)
    try:
        return ("program", Program(*parts))
    except InvalidProgram as error:
        return ("fault", (error.word, error.procedure, error.place))
