"""The greatest counts of chains along stretches of procedures, put together from those of stretches within."""

# The source of all chains that are born on a stretch. Their counts begin as if each had the longest keep, so that one
# number stands for allowance and count.
BIRTH = ""
LONGEST_KEEP = 60
# More than any count that comes of ways without loops; it stands for counts that grow without end.
ENDLESS = 1000000


class Stretch:
    """What becomes of values along a part of a procedure, which takes at most so many ticks.

    `held` has for each carrier that was changed a dict from the sources of its chains to numbers; with the ticks of the
    stretch, but for shelves without them, these are the greatest counts of chains. So time passes without changing
    them. A source is a carrier at the beginning of the stretch, or `BIRTH`; a carrier that was not changed comes from
    itself. `latest` is a dict from sources to the greatest counts at reads. `timeless` has as keys the shelves and
    `BIRTH`, whose counts do not grow. The dicts in `held` are not changed.
    """

    def __init__(self, timeless, ticks):
        self.timeless = timeless
        self.ticks = ticks
        self.held = {}
        self.latest = {}

    def sources_of(self, carrier):
        """The sources of what lies in a carrier, with their numbers."""
        return self.held[carrier] if carrier in self.held else {carrier: 0}

    def growth(self, carrier):
        """What makes the numbers of a carrier counts."""
        return 0 if carrier in self.timeless else self.ticks

    def note_read(self, carrier, later):
        """Takes in that what lies in a carrier is read so many ticks later."""
        latest = self.latest
        later += self.growth(carrier)
        sources = self.sources_of(carrier)
        for source in sources:
            count = sources[source] + later
            if source not in latest or latest[source] < count:
                latest[source] = count

    def fill(self, name, allowance):
        """Fills a name with what is born now."""
        self.held[name] = {BIRTH: LONGEST_KEEP - allowance - self.ticks}

    def handed_on(self, target, counts):
        """The sources of what a carrier gets now from those in a dict, if their counts grow by so much."""
        found = {}
        less = self.growth(target)
        for carrier in counts:
            more = counts[carrier] + self.growth(carrier) - less
            sources = self.sources_of(carrier)
            for source in sources:
                number = sources[source] + more
                if source not in found or found[source] < number:
                    found[source] = number
        return found

    def go_along(self, other):
        """Goes on along another stretch."""
        for source in list(other.latest):
            self.note_read(source, other.latest[source])
        made = {carrier: self.handed_on(carrier, other.held[carrier]) for carrier in other.held}
        self.held.update(made)
        self.ticks += other.ticks

    def joined(self, other):
        """What becomes of values along this stretch or along the other one."""
        both = Stretch(self.timeless, max(self.ticks, other.ticks))
        both.latest = greatest(self.latest, other.latest)
        for carrier in list(self.held) + [one for one in other.held if one not in self.held]:
            mine = self.sources_after(carrier, both.ticks)
            both.held[carrier] = greatest(mine, other.sources_after(carrier, both.ticks))
        return both

    def sources_after(self, carrier, ticks):
        """The sources of what lies in a carrier, with numbers for so many ticks in place of those of the stretch."""
        sources = self.sources_of(carrier)
        more = self.growth(carrier) - ticks
        if more == 0 or carrier in self.timeless:
            return sources
        return {source: sources[source] + more for source in sources}

    def repeated(self):
        """What becomes of values when this stretch, which takes some time, is gone along any number of times."""
        counts = {carrier: self.sources_after(carrier, 0) for carrier in self.held}
        for carrier in list(counts):
            go_round(counts, carrier)
        found = Stretch(self.timeless, ENDLESS)
        for carrier in counts:
            sources = {source: min(self.waited(source, counts[carrier][source]), ENDLESS) for source in counts[carrier]}
            sources[carrier] = max(sources.get(carrier, 0), 0)
            less = found.growth(carrier)
            found.held[carrier] = {source: sources[source] - less for source in sources}
        for source in list(self.latest):
            found.note_read(source, self.latest[source])
        return found

    def waited(self, source, count):
        """A count of a chain from a source, which may have waited in its carrier for rounds that do not change it."""
        return count if source in self.held or source in self.timeless else count + ENDLESS


def greatest(one, other):
    """The greatest numbers of two dicts."""
    found = dict(one)
    for source in other:
        if source not in found or found[source] < other[source]:
            found[source] = other[source]
    return found


def go_round(counts, between):
    """Takes in all ways through one more carrier in between; `counts` has for each carrier those from its sources."""
    around = counts[between].get(between, 0)
    if around > 0:
        counts[between] = {source: counts[between][source] + ENDLESS for source in counts[between]}
    last = counts[between]
    for carrier in list(counts):
        if carrier != between and between in counts[carrier]:
            first = counts[carrier][between] + (ENDLESS if around > 0 else 0)
            longer = {source: first + last[source] for source in last}
            counts[carrier] = greatest(counts[carrier], longer)
