"""A history together with the prices by which it is told."""

from lineorigins.courses import Courses
from lineorigins.errors import InvalidHistory
from lineorigins.histories import History
from lineorigins.prices import prices_or_usual
from lineorigins.ways import Ways


class Study:
    """What the answers are asked of: a history and prices, with the cheapest ways to tell each version."""

    def __init__(self, history, *, prices=None):
        if not isinstance(history, History):
            raise InvalidHistory(history)
        self._history = history
        self._prices = prices_or_usual(prices)
        self._ways = [Ways(history, number, self._prices) for number in range(len(history))]
        self._courses = None

    @property
    def history(self):
        return self._history

    @property
    def prices(self):
        return self._prices

    def ways(self, number):
        """The cheapest ways to tell a version; raises the error of a number that is not there."""
        self._history.version(number)
        return self._ways[number]

    def courses(self):
        """The answers for all prices of a piece, which are found when they are first asked for."""
        if self._courses is None:
            self._courses = Courses(self._history, self._prices)
        return self._courses

    def __eq__(self, other):
        if not isinstance(other, Study):
            return False
        return self._history == other.history and self._prices == other.prices
