"""The rules for procedures: their heads, the forms of their steps, and the kinds of their names and shelves."""

from sourwright.errors import InvalidProgram
from sourwright.forms import MOST_BODIES, is_factor, is_pause, is_sign, is_word


class Checked:
    """A procedure that breaks no rule; `index` is its own in the errors.

    `found` are its steps by place; `kind_by_name` and `kind_by_shelf` have the kinds of its names and of its shelves.
    `is_sure` tells whether it is surely sound; if not, all its ways have to be looked at. On the way through its text,
    `lying` has as keys the shelves that may be filled, with True if they surely are, and `bodies` counts those around a
    step. `named` and `shelved` have as keys the names and shelves of steps at which something is wrong, and
    `wrong_kind` is the first place at which a kind is.
    """

    def __init__(self, index, given, known):
        self.index = index
        self.known = known
        self.found = []
        self.kind_by_name = {}
        self.kind_by_shelf = {}
        self.is_sure = True
        self.lying = {}
        self.bodies = 0
        self.named = {}
        self.shelved = {}
        self.wrong_kind = None
        _, _, results, body = given
        self.check_head(given)
        here = dict(self.kind_by_name)
        self.add_body(body, here)
        self.check_carriers(results)
        self.given_kinds = self.kinds_of_results(results, here)

    def check_head(self, given):
        """Raises for the first rule that the name, the parameters or the results break by themselves."""
        name, params, results, _ = given
        if not is_word(name) or name in self.known.callees:
            raise InvalidProgram("name", self.index, -1)
        for param, kind in params:
            if not is_word(param) or param in self.kind_by_name or kind not in self.known.keep_by_kind:
                raise InvalidProgram("param", self.index, -1)
            self.kind_by_name[param] = kind
        self.taken_kinds = tuple(self.kind_by_name.values())
        for result in results:
            if result not in self.kind_by_name and not is_word(result):
                raise InvalidProgram("result", self.index, -1)

    def check_carriers(self, results):
        """Raises if a name is used for a shelf, too, or for the first step at which a kind is wrong."""
        for shelves in (self.kind_by_shelf, self.shelved):
            for shelf in shelves:
                if shelf in self.kind_by_name or shelf in self.named or shelf in results:
                    raise InvalidProgram("shelf", self.index, -1)
        if self.wrong_kind is not None:
            raise InvalidProgram("kind", self.index, self.wrong_kind)

    def add_body(self, body, here):
        """Adds the steps of a body to those found before it, which gives them their places.

        `here` has the kinds of the names that are surely filled; it is changed to those behind the body.
        """
        for step in body:
            self.found.append(step)
            goes_on = PASSING.get(step[0]) if isinstance(step, tuple) and step and isinstance(step[0], str) else None
            if goes_on is None or not goes_on(self, step, here):
                self.look_closer(step, here)

    def add_if(self, yes, no, here):
        """Adds the bodies of an `if`."""
        before = dict(self.lying)
        other = dict(here)
        self.bodies += 1
        self.add_body(yes, here)
        self.lying, before = before, self.lying
        self.add_body(no, other)
        self.bodies -= 1
        self.go_on_behind(before, here, other)

    def add_while(self, body, here):
        """Adds the body of a `while`."""
        before = dict(self.lying)
        other = dict(here)
        self.bodies += 1
        self.add_body(body, other)
        self.bodies -= 1
        # If a body loses nothing, it always begins as it does first; names are lost to shelves alone.
        if self.kind_by_shelf and (before != self.lying or not all([name in other for name in here])):
            self.is_sure = False
        self.lying = before

    def go_on_behind(self, before, here, other):
        """Goes on with what rests and is filled behind both bodies of an `if`."""
        if here != other:
            for name in list(here):
                if name not in other:
                    del here[name]
        if before != self.lying:
            either = list(before) + list(self.lying)
            self.lying = {shelf: before.get(shelf, False) and self.lying.get(shelf, False) for shelf in either}

    def look_closer(self, step, here):
        """Raises if a step breaks a rule by itself; otherwise some name lacks its kind, or may not be filled."""
        word = fault_of(step, self)
        if word is not None:
            raise InvalidProgram(word, self.index, len(self.found) - 1)
        self.is_sure = False
        here.update(self.kind_by_name)
        goes_on = PASSING[step[0]]
        if not goes_on(self, step, here) and self.wrong_kind is None:
            self.wrong_kind = len(self.found) - 1

    def fill_name(self, name, kind, here):
        """Fills a name with a value of this kind, or returns False if it cannot have that."""
        if not takes_kind(name, kind, self.kind_by_name):
            return False
        here[name] = kind
        return True

    def kinds_of_results(self, results, here):
        """The kinds of the results; raises if one has none."""
        found = []
        for result in results:
            if result not in here:
                self.is_sure = False
                if result not in self.kind_by_name:
                    raise InvalidProgram("result", self.index, -1)
            found.append(self.kind_by_name[result])
        return tuple(found)


def takes_kind(carrier, kind, known):
    """Whether a name or shelf can have this kind; if so it has it from now on in the dict of those that are known."""
    if carrier not in known:
        if not is_word(carrier):
            return False
        known[carrier] = kind
    return known[carrier] == kind


def passes_get(checked, step, here):
    """Goes on behind a get; False if something is wrong with it. So it is for each form of step."""
    if len(step) != 3 or not isinstance(step[1], str) or not isinstance(step[2], str):
        return False
    well = checked.known.well_by_name.get(step[2])
    return well is not None and (here.get(step[1]) == well[0] or checked.fill_name(step[1], well[0], here))


def passes_mix(checked, step, here):
    if len(step) != 5:
        return False
    _, made, sign, one, two = step
    if not isinstance(made, str) or not isinstance(one, str) or not isinstance(two, str) or not is_sign(sign):
        return False
    kind = here.get(one)
    if kind is None or here.get(two) != kind:
        return False
    return here.get(made) == kind or checked.fill_name(made, kind, here)


def passes_scale(checked, step, here):
    return len(step) == 4 and is_factor(step[3]) and hands_on(checked, step, here)


def passes_dish(checked, step, here):
    if len(step) != 4:
        return False
    _, made, name, one = step
    if not isinstance(made, str) or not isinstance(name, str) or not isinstance(one, str):
        return False
    dish = checked.known.dish_by_name.get(name)
    if dish is None or here.get(one) != dish[0]:
        return False
    return here.get(made) == dish[1] or checked.fill_name(made, dish[1], here)


def passes_copy(checked, step, here):
    return len(step) == 3 and hands_on(checked, step, here)


def hands_on(checked, step, here):
    """Goes on behind a step that fills its first name with a value of the kind of its second one, as `passes_get`."""
    if not isinstance(step[1], str) or not isinstance(step[2], str):
        return False
    kind = here.get(step[2])
    return kind is not None and (here.get(step[1]) == kind or checked.fill_name(step[1], kind, here))


def passes_wait(_, step, here):
    return len(step) == 2 and is_pause(step[1])


def passes_put(checked, step, here):
    if len(step) != 3 or not isinstance(step[1], str) or not isinstance(step[2], str):
        return False
    _, shelf, one = step
    kind = here.get(one)
    if kind is None or not takes_kind(shelf, kind, checked.kind_by_shelf):
        return False
    if shelf in checked.lying:
        checked.is_sure = False
    checked.lying[shelf] = True
    del here[one]
    return True


def passes_take(checked, step, here):
    if len(step) != 3 or not isinstance(step[1], str) or not isinstance(step[2], str):
        return False
    _, made, shelf = step
    kind = checked.kind_by_shelf.get(shelf)
    if kind is None or not checked.fill_name(made, kind, here):
        return False
    if not checked.lying.pop(shelf, False):
        checked.is_sure = False
    return True


def passes_if(checked, step, here):
    if len(step) != 3 or checked.bodies >= MOST_BODIES:
        return False
    _, yes, no = step
    if not isinstance(yes, tuple) or not isinstance(no, tuple):
        return False
    checked.add_if(yes, no, here)
    return True


def passes_while(checked, step, here):
    if len(step) != 2 or checked.bodies >= MOST_BODIES or not isinstance(step[1], tuple):
        return False
    checked.add_while(step[1], here)
    return True


def passes_call(checked, step, here):
    if len(step) != 4:
        return False
    _, callee, args, filled = step
    if not isinstance(callee, str) or not isinstance(args, tuple) or not isinstance(filled, tuple):
        return False
    taken, given = checked.known.callees.get(callee, (None, None))
    if taken is None or len(args) != len(taken) or len(filled) != len(given):
        return False
    for arg, kind in zip(args, taken):
        if not isinstance(arg, str) or here.get(arg) != kind:
            return False
    for at, name in enumerate(filled):
        if not isinstance(name, str) or name in filled[:at] or not checked.fill_name(name, given[at], here):
            return False
    return True


def fault_of(step, checked):
    """The word for the first rule that a step breaks by itself, or None."""
    if not isinstance(step, tuple) or len(step) == 0:
        return "step"
    word = step[0]
    if not isinstance(word, str) or word not in FORMS:
        return "step"
    length, spots = FORMS[word]
    if len(step) != length or not take_names([step[spot] for spot in spots], checked.named):
        return "step"
    fault_of_rest = RESTS[word]
    return fault_of_rest(step, checked)


def take_names(given, seen):
    """Takes these names into a dict, which holds names that were seen; False if one of them cannot be a name."""
    for name in given:
        if not is_word(name):
            return False
        seen[name] = True
    return True


def fault_of_get(step, checked):
    """The word for what is wrong with a get but for its names, or None; so it is for each form of step."""
    if not isinstance(step[2], str):
        return "step"
    return None if step[2] in checked.known.well_by_name else "unknown"


def fault_of_mix(step, _):
    return None if is_sign(step[2]) else "step"


def fault_of_scale(step, _):
    return None if is_factor(step[3]) else "step"


def fault_of_dish(step, checked):
    if not isinstance(step[2], str):
        return "step"
    return None if step[2] in checked.known.dish_by_name else "unknown"


def fault_of_copy(step, _):
    return None


def fault_of_wait(step, _):
    return None if is_pause(step[1]) else "step"


def fault_of_put(step, checked):
    return None if take_names(step[1:2], checked.shelved) else "step"


def fault_of_take(step, checked):
    return None if take_names(step[2:], checked.shelved) else "step"


def fault_of_asking(step, checked):
    if checked.bodies >= MOST_BODIES or not all([isinstance(body, tuple) for body in step[1:]]):
        return "step"
    return None


def fault_of_call(step, checked):
    _, callee, args, filled = step
    if not isinstance(callee, str) or not isinstance(args, tuple) or not isinstance(filled, tuple):
        return "step"
    if not take_names(args, checked.named) or not take_names(filled, checked.named):
        return "step"
    if callee not in checked.known.callees:
        return "unknown"
    return None if checked.known.fits_callee(step) else "count"


PASSING = {
    "get": passes_get, "mix": passes_mix, "scale": passes_scale, "dish": passes_dish, "copy": passes_copy,
    "wait": passes_wait, "put": passes_put, "take": passes_take, "if": passes_if, "while": passes_while,
    "call": passes_call,
}
# For each form of step its length, and where names of values stand in it.
FORMS = {
    "get": (3, (1,)), "mix": (5, (1, 3, 4)), "scale": (4, (1, 2)), "dish": (4, (1, 3)), "copy": (3, (1, 2)),
    "wait": (2, ()), "put": (3, (2,)), "take": (3, (1,)), "if": (3, ()), "while": (2, ()), "call": (4, ()),
}
RESTS = {
    "get": fault_of_get, "mix": fault_of_mix, "scale": fault_of_scale, "dish": fault_of_dish, "copy": fault_of_copy,
    "wait": fault_of_wait, "put": fault_of_put, "take": fault_of_take, "if": fault_of_asking, "while": fault_of_asking,
    "call": fault_of_call,
}
