"""The life types of procedures."""

from sourwright.rows import LifeRow, least_term

# Also what stands for more ticks in a plain form.
MOST_TOOK = 60


class LifeType:
    """What a procedure needs of its arguments, how long it takes, and what life its results have."""

    def __init__(self, keeps, needs, took, rows, *, sours=False):
        self._keeps = tuple(keeps)
        self._needs = tuple(needs)
        self._took = took
        self._rows = tuple(rows)
        self._sours = sours

    @staticmethod
    def never(keeps, results):
        """The type, with these keeps and this number of results, by which no start is fresh."""
        return LifeType(keeps, (61,) * len(keeps), MOST_TOOK, (None,) * results, sours=True)

    @property
    def keeps(self):
        """The keeps of the kinds of the parameters."""
        return self._keeps

    @property
    def needs(self):
        """The life that is needed of each parameter; -1 where it may be sour."""
        return self._needs

    @property
    def took(self):
        """The greatest number of ticks; 61 stands for more than 60."""
        return self._took

    @property
    def rows(self):
        """The row of each result, or None for one that is never good."""
        return self._rows

    @property
    def sours(self):
        """Whether the procedure sours by itself."""
        return self._sours

    @property
    def is_never(self):
        """Whether no start is fresh."""
        return self._sours or any([need > keep for need, keep in zip(self._needs, self._keeps)])

    def __call__(self, lives):
        if self.is_never or any([life < need for life, need in zip(lives, self._needs)]):
            return None
        return tuple([-1 if row is None else row(lives) for row in self._rows])

    def plain(self):
        """The plain form."""
        if self.is_never:
            return LifeType.never(self._keeps, len(self._rows))
        rows = [self._plain_row(row) for row in self._rows]
        return LifeType(self._keeps, self._needs, min(self._took, MOST_TOOK), rows)

    def _plain_row(self, row):
        """The plain form of a row."""
        if row is None:
            return None
        left = row.left
        lost = list(row.lost)
        for index, (need, keep) in enumerate(zip(self._needs, self._keeps)):
            if lost[index] is not None and need == keep:
                left = least_term(left, max(keep - lost[index], -1))
                lost[index] = None
        longest = LifeRow(left, lost)
        if longest(self._keeps) < 1:
            return None
        for index, need in enumerate(self._needs):
            if lost[index] is not None and need - lost[index] >= self._least_other(left, lost, index):
                lost[index] = None
        ends = best_ends(self._keeps, lost)
        if ends and left is not None and left >= min(ends):
            left = None
        return LifeRow(left, lost)

    def _least_other(self, left, lost, index):
        """The least bound that the terms but this entry give where all lives are the keeps, or 61."""
        ends = best_ends(self._keeps, [None if at == index else entry for at, entry in enumerate(lost)])
        return min(ends + [61 if left is None else left])

    def stands_for(self, u):
        """Whether a procedure of this type may stand for one of the type `u`."""
        if u.is_never:
            return True
        return self.fits_needs(u) and self.fits_took(u) and self.weaker_start(u) is None

    def fits_needs(self, other):
        """Whether this type is not never, and needs no more of any argument than the other one."""
        return not self.is_never and all([mine <= need for mine, need in zip(self._needs, other.needs)])

    def fits_took(self, other):
        """Whether this type takes no more ticks than the other one, as far as it can matter."""
        return min(self._took, MOST_TOOK) <= min(other.took, MOST_TOOK)

    def weaker_start(self, other):
        """The index of a result and lives with which it is good for a tick by the other type, and less so by this one.

        None if there are none. Of the lives that one parameter can have, only the keeps of the others are tried: all
        the other lives do is to lower the bound that has to be met.
        """
        for index, (mine, row) in enumerate(zip(self._rows, other.rows)):
            for lives in decisive_lives(self._keeps, other.needs):
                bound = -1 if row is None else row(lives)
                if bound >= 1 and (mine is None or mine(lives) < bound):
                    return (index, lives)
        return None

    def __eq__(self, other):
        return (
            isinstance(other, LifeType) and self._keeps == other._keeps and self._needs == other._needs
            and self._took == other._took and self._rows == other._rows and self._sours == other._sours
        )

    def __repr__(self):
        return f"LifeType({self._keeps}, {self._needs}, {self._took}, {self._rows}, {self._sours})"


def best_ends(keeps, lost):
    """What each entry leaves of the keep."""
    return [keep - entry for keep, entry in zip(keeps, lost) if entry is not None]


def decisive_lives(keeps, needs):
    """The lives that are all keeps, and those in which one parameter has less, though no less than its need."""
    keeps = tuple(keeps)
    found = [keeps]
    for index, need in enumerate(needs):
        found.extend([keeps[:index] + (life,) + keeps[index + 1:] for life in range(need, keeps[index])])
    return found
