"""Lines, texts, and what makes two lines alike."""

from lineorigins.errors import InvalidLayout, InvalidText
from lineorigins.kinds import is_listing, is_plain

MOST_CHARACTERS = 40
MOST_LINES = 12
MOST_IGNORED = 8


def is_line(value):
    return isinstance(value, str) and len(value) <= MOST_CHARACTERS and is_plain(value)


def is_text(value):
    if not is_listing(value) or len(value) > MOST_LINES:
        return False
    return all([is_line(line) for line in value])


class Layout:
    """Gives every line a key. Lines with the same key are alike."""

    def __init__(self, *, ignored="", folded=False):
        if not _can_be_ignored(ignored):
            raise InvalidLayout(ignored)
        if not isinstance(folded, bool):
            raise InvalidLayout(folded)
        self._ignored = "".join(sorted([str(mark) for mark in ignored]))
        self._folded = folded

    @property
    def ignored(self):
        return self._ignored

    @property
    def folded(self):
        return self._folded

    def __call__(self, line):
        if not is_line(line):
            raise InvalidText(line)
        kept = "".join([mark for mark in line if mark not in self._ignored])
        if self._folded:
            return kept.lower()
        return kept

    def __eq__(self, other):
        if not isinstance(other, Layout):
            return False
        return self._ignored == other.ignored and self._folded == other.folded


def _can_be_ignored(value):
    if not isinstance(value, str) or len(value) > MOST_IGNORED:
        return False
    return is_plain(value) and len(set(value)) == len(value)
