"""Ranges of positive numbers."""

from lineorigins.errors import InvalidRanges
from lineorigins.kinds import is_listing
from lineorigins.places import is_tuple
from lineorigins.ratios import as_ratio, is_number


class Ranges:
    """Ranges of positive numbers in ascending order, each beginning above the end of the one before."""

    def __init__(self, parts=()):
        if not _are_ranges(parts):
            raise InvalidRanges(parts)
        self._parts = tuple([(as_ratio(low), None if high is None else as_ratio(high)) for low, high in parts])

    @property
    def parts(self):
        return self._parts

    @classmethod
    def whole(cls):
        """All positive numbers."""
        return cls(((0, None),))

    def common(self, other):
        """The numbers that are in both."""
        found = []
        at = 0
        beside = 0
        while at < len(self) and beside < len(other):
            one = self._parts[at]
            two = other.parts[beside]
            low = two[0] if one[0] < two[0] else one[0]
            if _ends_before(one, two):
                high = one[1]
                at = at + 1
            else:
                high = two[1]
                beside = beside + 1
            if high is None or low <= high:
                found.append((low, high))
        return Ranges(found)

    def joined(self, other):
        """The numbers that are in one of them."""
        found = []
        for low, high in _by_beginnings(self._parts, other.parts):
            if not found or _is_below(found[-1], low):
                found.append((low, high))
            elif _ends_before(found[-1], (low, high)):
                found[-1] = (found[-1][0], high)
        return Ranges(found)

    def __iter__(self):
        return iter(self._parts)

    def __len__(self):
        return len(self._parts)

    def __bool__(self):
        return bool(len(self._parts) > 0)

    def __contains__(self, x):
        if not is_number(x) or x <= 0:
            return False
        return any([low <= x and (high is None or x <= high) for low, high in self._parts])

    def __eq__(self, other):
        return isinstance(other, Ranges) and self._parts == other.parts


def _are_ranges(value):
    if not is_listing(value) or not all([_is_range(part) for part in value]):
        return False
    return all([_is_below(value[at], value[at + 1][0]) for at in range(len(value) - 1)])


def _is_range(value):
    if not is_tuple(value, 2) or not is_number(value[0]) or value[0] < 0:
        return False
    low, high = value
    return high is None or is_number(high) and high > 0 and low <= high


def _is_below(part, low):
    """Whether a range ends before a number."""
    return part[1] is not None and part[1] < low


def _ends_before(one, two):
    """Whether the one range ends before the end of the other."""
    return one[1] is not None and (two[1] is None or one[1] < two[1])


def _by_beginnings(ones, others):
    """The ranges of both, ordered by their beginnings."""
    found = []
    at = 0
    for part in ones:
        while at < len(others) and others[at][0] < part[0]:
            found.append(others[at])
            at = at + 1
        found.append(part)
    return found + list(others[at:])
