"""Bounds for the lives of values."""


class LifeRow:
    """The least of `left` and of each life of a parameter less an entry of `lost`; None stands for no such term."""

    def __init__(self, left, lost):
        self._left = left
        self._lost = tuple(lost)

    @property
    def left(self):
        """The bound that does not depend on the parameters."""
        return self._left

    @property
    def lost(self):
        """What the life of each parameter is lowered by."""
        return self._lost

    def __call__(self, lives):
        terms = [life - lost for life, lost in zip(lives, self._lost) if lost is not None]
        if self._left is not None:
            terms.append(self._left)
        return max(min(terms), -1)

    def __sub__(self, other):
        left = None if self._left is None else max(self._left - other, -1)
        return LifeRow(left, [None if lost is None else min(lost + other, 61) for lost in self._lost])

    def __and__(self, other):
        left = least_term(self._left, other._left)
        return LifeRow(left, [greatest_term(one, two) for one, two in zip(self._lost, other._lost)])

    def is_below(self, other):
        """Whether this row has each term of the other one, and none of these is better."""
        if other._left is not None and (self._left is None or self._left > other._left):
            return False
        for one, two in zip(self._lost, other._lost):
            if two is not None and (one is None or one < two):
                return False
        return True

    def __eq__(self, other):
        return isinstance(other, LifeRow) and self._left == other._left and self._lost == other._lost

    def __repr__(self):
        return f"LifeRow({self._left}, {self._lost})"


def least_term(one, two):
    """The lower of two bounds, of which either may be lacking."""
    if one is None or two is None:
        return two if one is None else one
    return min(one, two)


def greatest_term(one, two):
    """The higher of two entries, of which either may be lacking."""
    if one is None or two is None:
        return two if one is None else one
    return max(one, two)
