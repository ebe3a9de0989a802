"""What the parts of a telling cost."""

from lineorigins.errors import InvalidLayout, InvalidNumber, InvalidPrices, InvalidText
from lineorigins.kinds import is_whole
from lineorigins.layouts import MOST_LINES, Layout
from lineorigins.ratios import Ratio, as_ratio, is_number

NAMES = ("piece", "far", "alike", "least")


class Prices:
    """The prices of a piece, the least length of a piece, and the layout by which lines are alike."""

    def __init__(self, *, piece=1, far=0, alike=0, least=1, layout=None):
        if not _is_piece(piece):
            raise InvalidNumber(piece)
        if not _is_addition(far):
            raise InvalidNumber(far)
        if not _is_addition(alike):
            raise InvalidNumber(alike)
        if not is_whole(least) or not 1 <= least <= MOST_LINES:
            raise InvalidNumber(least)
        if layout is not None and not isinstance(layout, Layout):
            raise InvalidLayout(layout)
        self._piece = as_ratio(piece)
        self._far = as_ratio(far)
        self._alike = as_ratio(alike)
        self._least = least
        self._layout = Layout() if layout is None else layout

    @property
    def piece(self):
        return self._piece

    @property
    def far(self):
        return self._far

    @property
    def alike(self):
        return self._alike

    @property
    def least(self):
        return self._least

    @property
    def layout(self):
        return self._layout

    @property
    def text(self):
        """The prices as written, without the layout."""
        return f"piece {self._piece.text} far {self._far.text} alike {self._alike.text} least {self._least}"

    @classmethod
    def from_text(cls, text, *, layout=None):
        """The prices that are written so."""
        words = _written_values(text)
        if words is None:
            raise InvalidText(text)
        piece = _read_price(words[0], text)
        if not _is_piece(piece):
            raise InvalidText(text)
        far = _read_price(words[1], text)
        if not _is_addition(far):
            raise InvalidText(text)
        alike = _read_price(words[2], text)
        if not _is_addition(alike):
            raise InvalidText(text)
        if words[3] not in [str(least) for least in range(1, MOST_LINES + 1)]:
            raise InvalidText(text)
        return cls(piece=piece, far=far, alike=alike, least=int(words[3]), layout=layout)

    def with_piece(self, piece):
        """The prices with another price of a piece."""
        return Prices(piece=piece, far=self._far, alike=self._alike, least=self._least, layout=self._layout)

    def __eq__(self, other):
        if not isinstance(other, Prices) or self._layout != other.layout:
            return False
        if self._piece != other.piece or self._far != other.far:
            return False
        return self._alike == other.alike and self._least == other.least


def prices_or_usual(prices):
    """The prices that an argument stands for; None stands for the usual ones."""
    if prices is None:
        return Prices()
    if not isinstance(prices, Prices):
        raise InvalidPrices(prices)
    return prices


def _is_piece(value):
    return is_number(value) and value > 0


def _is_addition(value):
    return is_number(value) and value >= 0


def _written_values(text):
    """The four words behind the names in a text, or None if the names are not in their places."""
    if not isinstance(text, str):
        return None
    words = text.split(" ")
    if len(words) != 2 * len(NAMES) or tuple(words[::2]) != NAMES:
        return None
    return words[1::2]


def _read_price(word, text):
    """The price that a word of a text is, where the whole text is what is wrong without it."""
    try:
        price = Ratio.from_text(word)
    except InvalidText as cause:
        raise InvalidText(text) from cause
    return price
