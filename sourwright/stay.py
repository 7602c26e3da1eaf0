"""A stay at a run, which tells where the last ticks of values come from."""

from sourwright.accounts import Account, Link
from sourwright.errors import UnknownName


class Stay:
    """Steps a world forward and back, and remembers where all values come from."""

    def __init__(self, world):
        self._world = world
        plan, _ = world.innermost()
        held = world.filled()
        links = {}
        for index, name in enumerate(plan.taken):
            life = held[name][1]
            links[name] = Link(("param", index, life), life, None)
        # There is an account for each open call, the innermost one last; the past are those that stood before.
        self._accounts = (Account(links, {}),)
        self._past = []

    @property
    def world(self):
        """The world that is stepped."""
        return self._world

    def forward(self, answer=None):
        """Carries out the next step and returns its event."""
        plan, place = self._world.innermost()
        begin = self._world.tick
        event = self._world.step(answer)
        if event[0] in ("did", "asked", "called", "returned"):
            self._past.append(self._accounts)
        if event[0] == "did":
            born = ("birth", plan.name, place, self._world.tick)
            after = self._accounts[-1].behind(plan.ops[place], born, begin)
            self._accounts = self._accounts[:-1] + (after,)
        elif event[0] == "called":
            callee, _ = self._world.innermost()
            handed = self._accounts[-1].handed_over(plan.ops[place].wants, callee.taken)
            self._accounts = self._accounts + (Account(handed, {}),)
        elif event[0] == "returned":
            caller, _ = self._world.innermost()
            given = self._accounts[-1].handed_over(plan.given, caller.ops[event[3]].fills)
            self._accounts = self._accounts[:-2] + (self._accounts[-2].with_links(given),)
        return event

    def back(self):
        """Takes back the last step that changed something; False if there is none."""
        if not self._world.undo():
            return False
        self._accounts = self._past.pop()
        return True

    def life(self, name):
        """The life of a name of the innermost open call."""
        held = self._world.filled()
        if name not in held:
            raise UnknownName(name)
        return held[name][1]

    def chain(self, name):
        """The chain by which the last tick of the value of a name came."""
        if name not in self._world.filled():
            raise UnknownName(name)
        return self._accounts[-1].links[name].chain()
