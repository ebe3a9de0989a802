"""Versions of a text, and histories of versions."""

from lineorigins.errors import (
    InvalidHistory, InvalidName, InvalidNumber, InvalidParents, InvalidText, InvalidVersion, TooMany)
from lineorigins.kinds import is_count, is_index, is_listing, is_name
from lineorigins.layouts import is_text

MOST_PARENTS = 3
MOST_VERSIONS = 10


class Version:
    """A text with its author, and the numbers of the versions that it was made from."""

    def __init__(self, lines, *, parents=(), author="anon"):
        if not is_text(lines):
            raise InvalidText(lines)
        if not _can_be_parents(parents):
            raise InvalidParents(parents)
        if not is_name(author):
            raise InvalidName(author)
        self._lines = tuple(lines)
        self._parents = tuple(sorted([int(parent) for parent in parents]))
        self._author = author

    @property
    def lines(self):
        return self._lines

    @property
    def parents(self):
        return self._parents

    @property
    def author(self):
        return self._author

    def __len__(self):
        return len(self._lines)

    def __getitem__(self, at):
        if not is_index(at, len(self._lines)):
            raise InvalidNumber(at)
        return self._lines[at]

    # Without this, Python would iterate over a version by its indexes.
    def __iter__(self):
        raise TypeError("a version cannot be iterated")

    def __contains__(self, x):
        return isinstance(x, str) and x in self._lines

    def __eq__(self, other):
        if not isinstance(other, Version) or self._author != other.author:
            return False
        return self._lines == other.lines and self._parents == other.parents


class History:
    """Versions, numbered from 0, whose parents have smaller numbers."""

    def __init__(self, versions=()):
        if not is_listing(versions) or len(versions) > MOST_VERSIONS:
            raise InvalidHistory(versions)
        for number, version in enumerate(versions):
            if not _fits_behind(version, number):
                raise InvalidVersion(version)
        self._versions = tuple(versions)
        self._ancestors = _ancestors_of_all(self._versions)

    def __iter__(self):
        return iter(self._versions)

    def __len__(self):
        return len(self._versions)

    def __contains__(self, x):
        return is_index(x, len(self._versions))

    def __eq__(self, other):
        return isinstance(other, History) and self._versions == other._versions

    def version(self, number):
        if number not in self:
            raise InvalidNumber(number)
        return self._versions[number]

    def ancestors(self, number):
        """The parents of a version and their ancestors, ascending."""
        if number not in self:
            raise InvalidNumber(number)
        return self._ancestors[number]

    def farther(self, number):
        """The ancestors that are no parents, ascending."""
        parents = self.version(number).parents
        return tuple([ancestor for ancestor in self._ancestors[number] if ancestor not in parents])

    def followed(self, version):
        """The history with one version more at the end."""
        if not _fits_behind(version, len(self._versions)):
            raise InvalidVersion(version)
        if len(self._versions) == MOST_VERSIONS:
            raise TooMany(MOST_VERSIONS)
        return History(self._versions + (version,))

    def amended(self, number, lines):
        """The history in which a version has other lines."""
        old = self.version(number)
        versions = list(self._versions)
        versions[number] = Version(lines, parents=old.parents, author=old.author)
        return History(versions)


def _can_be_parents(value):
    if not is_listing(value) or len(value) > MOST_PARENTS:
        return False
    return all([is_count(parent) for parent in value]) and len(set(value)) == len(value)


def _fits_behind(value, number):
    """Whether the value is a version that can have this number."""
    return isinstance(value, Version) and all([parent < number for parent in value.parents])


def _ancestors_of_all(versions):
    """For each version, the ascending tuple of its ancestors."""
    found = []
    for number, version in enumerate(versions):
        reached = list(version.parents)
        for parent in version.parents:
            reached.extend(found[parent])
        found.append(tuple([earlier for earlier in range(number) if earlier in reached]))
    return tuple(found)
