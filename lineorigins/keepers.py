"""A history whose answers are kept while it changes; each change can be undone."""

from lineorigins.errors import InvalidHistory, InvalidNumber, InvalidPrices, NothingToUndo
from lineorigins.histories import MOST_VERSIONS
from lineorigins.kinds import is_listing
from lineorigins.layouts import MOST_LINES
from lineorigins.origins import origins
from lineorigins.places import is_place, is_tuple
from lineorigins.prices import Prices
from lineorigins.studies import Study


class Trial:
    """A block: if it ends with an error, the keeper is then as when the block began."""

    def __init__(self, keeper):
        self._keeper = keeper
        self._kept_study = None
        self._kept_past = None

    def __enter__(self):
        self._kept_study = self._keeper._study
        self._kept_past = self._keeper._past
        return self._keeper

    def __exit__(self, kind, value, trace):
        keeper = self._keeper
        if kind is not None:
            keeper._study = self._kept_study
            keeper._past = self._kept_past


class Keeper:
    """A history and prices, and the answers for them."""

    def __init__(self, history, *, prices=None):
        self._study = Study(history, prices=prices)
        # The studies to which undoing leads back. This is replaced, never changed, so that a trial can keep it.
        self._past = ()

    @property
    def history(self):
        return self._study.history

    @property
    def study(self):
        return self._study

    @property
    def rates(self):
        """The prices."""
        return self._study.prices

    @rates.setter
    def rates(self, value):
        self._reprice(value)

    def follow(self, version):
        """The version follows; returns its number."""
        self._become(Study(self._study.history.followed(version), prices=self._study.prices))
        return len(self._study.history) - 1

    def amend(self, number, lines):
        """The version has other lines; returns the places whose possible origins are others than before."""
        before = self._study
        self._amend(number, lines)
        return _changed_places(before, self._study)

    def reprice(self, prices):
        """The prices are others; returns the places whose possible origins are others than before."""
        before = self._study
        self._reprice(prices)
        return _changed_places(before, self._study)

    def undo(self):
        """Undo the last change that is not undone."""
        if len(self._past) == 0:
            raise NothingToUndo()
        self._study = self._past[-1]
        self._past = self._past[:-1]

    def trial(self):
        """A block of changes, of which none is left if it ends with an error."""
        return Trial(self)

    def attempt(self, changes):
        """Perform all changes or none; returns the places whose possible origins are others than before all of them."""
        if not _are_changes(changes):
            raise InvalidHistory(changes)
        before = self._study
        with Trial(self):
            for kind, value in changes:
                self._perform(kind, value)
        return _changed_places(before, self._study)

    def later(self, number):
        """The versions of which a version is an ancestor, ascending."""
        history = self._study.history
        history.version(number)
        return tuple([other for other in range(len(history)) if number in history.ancestors(other)])

    def _perform(self, kind, value):
        """Perform one change of an attempt."""
        if not isinstance(kind, str):
            self._amend(kind, value)
        elif kind == "follow":
            self.follow(value)
        elif kind == "reprice":
            self._reprice(value)
        elif kind == "undo":
            self.undo()
        else:
            raise InvalidNumber(kind)

    def _amend(self, number, lines):
        self._become(Study(self._study.history.amended(number, lines), prices=self._study.prices))

    def _reprice(self, prices):
        if not isinstance(prices, Prices):
            raise InvalidPrices(prices)
        self._become(Study(self._study.history, prices=prices))

    def _become(self, study):
        """Make a change that can be undone."""
        self._past = self._past + (self._study,)
        self._study = study


def _are_changes(value):
    """Whether the value is a list or tuple of tuples of two elements."""
    return is_listing(value) and all([is_tuple(item, 2) for item in value])


def _changed_places(before, after):
    """The places whose possible origins in two studies differ, ascending."""
    places = [(number, index) for number in range(MOST_VERSIONS) for index in range(MOST_LINES)]
    return tuple([place for place in places if _origins_at(before, place) != _origins_at(after, place)])


def _origins_at(study, place):
    """The possible origins of the line at a place; a place at which there is no line has none."""
    return origins(study, *place) if is_place(study.history, place) else ()
