"""The rules for procedures: their heads, the forms of their steps, and the kinds of their names and shelves."""

from sourwright.errors import InvalidProgram
from sourwright.forms import MOST_BODIES, is_factor, is_pause, is_sign, is_word

ASKING = ("if", "while")


def take_names(given, seen):
    """Takes these names into a dict, which holds names that were seen; False if one of them cannot be a name."""
    for name in given:
        if not isinstance(name, str):
            return False
        if name not in seen:
            if not is_word(name):
                return False
            seen[name] = True
    return True


def fault_of_get(step, checked):
    """The word for what is wrong with a get but for its names, or None; so it is for each form of step."""
    if not isinstance(step[2], str):
        return "step"
    return None if step[2] in checked.known.well_by_name else "unknown"


def fault_of_mix(step, _):
    return None if is_sign(step[2]) else "step"


def fault_of_scale(step, _):
    return None if is_factor(step[3]) else "step"


def fault_of_dish(step, checked):
    if not isinstance(step[2], str):
        return "step"
    return None if step[2] in checked.known.dish_by_name else "unknown"


def fault_of_copy(step, _):
    return None


def fault_of_wait(step, _):
    return None if is_pause(step[1]) else "step"


def fault_of_put(step, checked):
    return None if take_names(step[1:2], checked.shelved) else "step"


def fault_of_take(step, checked):
    return None if take_names(step[2:], checked.shelved) else "step"


def fault_of_asking(step, checked):
    if checked.bodies >= MOST_BODIES or not all([isinstance(body, tuple) for body in step[1:]]):
        return "step"
    return None


def fault_of_call(step, checked):
    _, callee, args, filled = step
    if not isinstance(callee, str) or not isinstance(args, tuple) or not isinstance(filled, tuple):
        return "step"
    if not take_names(args, checked.named) or not take_names(filled, checked.named):
        return "step"
    if callee not in checked.known.callees:
        return "unknown"
    return None if checked.known.fits_callee(step) else "count"


# For each form of step its length, and where names of values stand in it.
FORMS = {
    "get": (3, (1,)), "mix": (5, (1, 3, 4)), "scale": (4, (1, 2)), "dish": (4, (1, 3)), "copy": (3, (1, 2)),
    "wait": (2, ()), "put": (3, (2,)), "take": (3, (1,)), "if": (3, ()), "while": (2, ()), "call": (4, ()),
}
RESTS = {
    "get": fault_of_get, "mix": fault_of_mix, "scale": fault_of_scale, "dish": fault_of_dish, "copy": fault_of_copy,
    "wait": fault_of_wait, "put": fault_of_put, "take": fault_of_take, "if": fault_of_asking, "while": fault_of_asking,
    "call": fault_of_call,
}


class Checked:
    """A procedure that breaks no rule; `index` is its own in the errors.

    `found` are its steps by place, `named` and `shelved` have the names of its values and of its shelves as keys, and
    `kind_by_carrier` the kinds of both. `bodies` counts those around the step that is looked at.
    """

    def __init__(self, index, given, known):
        self.index = index
        self.known = known
        self.found = []
        self.named = {}
        self.shelved = {}
        self.bodies = 0
        _, params, self.given_names, body = given
        self.check_head(given)
        self.add_body(body)
        if any([shelf in self.named for shelf in self.shelved]):
            raise InvalidProgram("shelf", index, -1)
        self.kind_by_carrier = {param: kind for param, kind in params}
        self.check_kinds()

    def check_head(self, given):
        """Raises for the first rule that the name, the parameters or the results break by themselves."""
        name, params, results, _ = given
        if not is_word(name) or name in self.known.callees:
            raise InvalidProgram("name", self.index, -1)
        for param, kind in params:
            if not is_word(param) or param in self.named or kind not in self.known.keep_by_kind:
                raise InvalidProgram("param", self.index, -1)
            self.named[param] = True
        if not take_names(results, self.named):
            raise InvalidProgram("result", self.index, -1)

    def add_body(self, body):
        """Adds the steps of a body to those found before it, which gives them their places."""
        for step in body:
            word = self.fault_of(step)
            if word is not None:
                raise InvalidProgram(word, self.index, len(self.found))
            self.found.append(step)
            if step[0] in ASKING:
                self.bodies += 1
                for inner in step[1:]:
                    self.add_body(inner)
                self.bodies -= 1

    def fault_of(self, step):
        """The word for the first rule that a step breaks by itself, or None."""
        if not isinstance(step, tuple) or len(step) == 0:
            return "step"
        word = step[0]
        if not isinstance(word, str) or word not in FORMS:
            return "step"
        length, spots = FORMS[word]
        if len(step) != length:
            return "step"
        named = self.named
        for spot in spots:
            name = step[spot]
            if not isinstance(name, str):
                return "step"
            if name not in named:
                if not is_word(name):
                    return "step"
                named[name] = True
        fault_of_rest = RESTS[word]
        return fault_of_rest(step, self)

    def check_kinds(self):
        """Raises for the first step whose operands or results have wrong kinds, or if a result has none."""
        for place, step in enumerate(self.found):
            if not self.gives_kinds(step):
                raise InvalidProgram("kind", self.index, place)
        if not all([result in self.kind_by_carrier for result in self.given_names]):
            raise InvalidProgram("result", self.index, -1)

    def gives_kinds(self, step):
        """Gives the results of a step their kinds; False if an operand or a result has a wrong one."""
        kinds = self.kind_by_carrier
        word = step[0]
        if word == "mix":
            kind = kinds.get(step[3])
            return kind is not None and kinds.get(step[4]) == kind == kinds.setdefault(step[1], kind)
        if word in ("scale", "copy", "put", "take"):
            kind = kinds.get(step[2])
            return kind is not None and kinds.setdefault(step[1], kind) == kind
        if word == "dish":
            needs, makes, _ = self.known.dish_by_name[step[2]]
            return kinds.get(step[3]) == needs and kinds.setdefault(step[1], makes) == makes
        if word == "get":
            kind, _ = self.known.well_by_name[step[2]]
            return kinds.setdefault(step[1], kind) == kind
        if word == "call":
            return self.call_gives_kinds(step)
        return True

    def call_gives_kinds(self, step):
        """As `gives_kinds`, for a call."""
        kinds = self.kind_by_carrier
        _, callee, args, filled = step
        taken, given = self.known.callees[callee]
        if [kinds.get(arg) for arg in args] != list(taken):
            return False
        return all([kinds.setdefault(name, kind) == kind for name, kind in zip(filled, given)])

    def kinds_of_call(self, given):
        """The kinds that calls of the procedure take, and those that they give."""
        _, params, results, _ = given
        return (tuple([kind for _, kind in params]), tuple([self.kind_by_carrier[result] for result in results]))
