"""A history together with the prices by which it is told."""

from lineorigins.errors import InvalidHistory
from lineorigins.histories import History
from lineorigins.prices import prices_or_usual


class Study:
    """What the answers are asked of: a history and prices."""

    def __init__(self, history, *, prices=None):
        if not isinstance(history, History):
            raise InvalidHistory(history)
        self._history = history
        self._prices = prices_or_usual(prices)

    @property
    def history(self):
        return self._history

    @property
    def prices(self):
        return self._prices

    def __eq__(self, other):
        if not isinstance(other, Study):
            return False
        return self._history == other.history and self._prices == other.prices
