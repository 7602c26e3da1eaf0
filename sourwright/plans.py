"""Procedures and code procedures, told in one way: what lies in cups and cold places goes by strings as names do."""

from sourwright.code import CodeProcedure
from sourwright.edges import goals_of
from sourwright.steps import operands_of, results_of

READING = ("mix", "scale", "dish", "put")
EMPTYING = ("put", "take")
QUIET = ("wait", "jump")
# Where cups and cold places stand in code rows.
CUPS = {"get": (1,), "mix": (1, 3, 4), "scale": (1, 2), "dish": (1, 3), "copy": (1, 2), "put": (2,), "take": (1,)}
COLD_PLACES = {"put": (1,), "take": (2,)}


class Op:
    """What a step or row does.

    `wants` are the carriers that must be filled, in order, and `reads` those that it reads; `fills` and `empties`
    are those that it fills and empties. `allowance` is the keep of what a get or dish makes. The ticks of a call
    are those after its callee. `told` is the step itself; a get tells at its end what the supply is asked with.
    What is quiet lets time pass at most. The way goes on to `goal`, but on no to `goal_on_no`.
    """

    def __init__(self, told, ticks, allowance, goals):
        self.told = told
        self.word = told[0]
        self.ticks = ticks
        self.allowance = allowance
        self.wants = operands_of(told)
        self.fills = results_of(told)
        self.reads = self.wants if self.word in READING else ()
        self.empties = self.wants if self.word in EMPTYING else ()
        self.is_quiet = self.word in QUIET
        self.goal = goals[0]
        self.goal_on_no = goals[-1]


class Plan:
    """A procedure as its operations by place, and where they lead.

    `taken` and `given` are the carriers of its parameters and results, `taken_kinds` and `taken_keeps` what the
    parameters are; `ways` has for each place the pairs of an answer and the next place; `colds` are the shelves.
    """

    def __init__(self, program, name):
        procedure = program[name]
        self.name = name
        self.is_code = isinstance(procedure, CodeProcedure)
        self.taken_kinds = kinds_taken(procedure)
        self.taken_keeps = tuple([program.keep_of(kind) for kind in self.taken_kinds])
        if self.is_code:
            self.taken = spots("c", list(range(len(procedure.params))))
            told = [row_with_strings(row) for row in procedure.rows]
            self.given = spots("r", list(range(count_given(procedure.rows))))
        else:
            self.taken = tuple([param for param, _ in procedure.params])
            told = [step_without_bodies(step, place) for place, step in enumerate(procedure.steps_told())]
            self.given = procedure.results
        goals = goals_of(procedure)
        self.ops = [op_of(program, step, led) for step, led in zip(told, goals)]
        self.exit_place = len(self.ops)
        self.ways = [[(None, led[0])] if len(led) == 1 else [(True, led[0]), (False, led[1])] for led in goals]
        self.colds = {}
        for op in self.ops:
            if op.word == "put":
                self.colds[op.fills[0]] = True
            elif op.word == "take":
                self.colds[op.wants[0]] = True

    def carriers(self):
        """All carriers, each once."""
        found = {carrier: True for carrier in self.taken + self.given}
        for op in self.ops:
            for carrier in op.wants + op.fills:
                found[carrier] = True
        return list(found)

    def called_names(self):
        """The names of the procedures that it calls, each once."""
        return list({op.told[1]: True for op in self.ops if op.word == "call"})


def needed_names(program, names):
    """These names and those of all that they call, directly or through others, in the order of the program."""
    needed = {name: True for name in names}
    found = []
    for given in program.procedures[::-1]:
        if given[0] in needed:
            found.append(given[0])
            for callee in program[given[0]].called_names():
                needed[callee] = True
    return found[::-1]


def kinds_taken(procedure):
    """The kinds of the parameters of a procedure or code procedure."""
    if isinstance(procedure, CodeProcedure):
        return procedure.params
    return tuple([kind for _, kind in procedure.params])


def spots(letter, numbers):
    """The carriers with this letter and these numbers."""
    return tuple([f"{letter}{number}" for number in numbers])


def count_given(rows):
    """The number of results of a code procedure, which all its ends have."""
    return [len(row[1]) for row in rows if row[0] == "end"][0]


def row_with_strings(row):
    """A code row with carriers in place of its numbers; an end tells what it fills, too."""
    word = row[0]
    if word == "call":
        return ("call", row[1], spots("c", row[2]), spots("c", row[3]))
    if word == "end":
        return ("end", spots("c", row[1]), spots("r", list(range(len(row[1])))))
    if word in ("ask", "jump"):
        return (word,)
    items = list(row)
    for at in CUPS.get(word, ()):
        items[at] = f"c{row[at]}"
    for at in COLD_PLACES.get(word, ()):
        items[at] = f"p{row[at]}"
    return tuple(items)


def step_without_bodies(step, place):
    """A step in the form that rows have."""
    if step[0] in ("if", "while"):
        return ("ask",)
    if step[0] == "get":
        return step + (place,)
    return step


def op_of(program, told, goals):
    """The operation of a step or row that leads to these places."""
    word = told[0]
    if word == "get":
        kind, ticks = program.well_of(told[2])
        return Op(told, ticks, program.keep_of(kind), goals)
    if word == "dish":
        _, kind, ticks = program.dish_of(told[2])
        return Op(told, ticks, program.keep_of(kind), goals)
    if word == "wait":
        return Op(told, told[1], None, goals)
    return Op(told, 0 if word in ("jump", "end") else 1, None, goals)
