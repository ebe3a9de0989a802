"""Exact fractions."""

from math import gcd, lcm

from lineorigins.errors import InvalidNumber, InvalidText
from lineorigins.kinds import is_digits, is_whole

MOST_DIGITS = 200


class Ratio:
    """An exact fraction in lowest terms with a positive denominator."""

    def __init__(self, top, bottom=1):
        if not is_whole(top):
            raise InvalidNumber(top)
        if not is_whole(bottom) or bottom == 0:
            raise InvalidNumber(bottom)
        shared = gcd(top, bottom)
        if bottom < 0:
            shared = -shared
        self._top = top // shared
        self._bottom = bottom // shared

    @property
    def top(self):
        return self._top

    @property
    def bottom(self):
        return self._bottom

    @property
    def text(self):
        """The ratio as written."""
        if self._bottom == 1:
            return str(self._top)
        return f"{self._top}/{self._bottom}"

    @classmethod
    def from_text(cls, text):
        """The ratio that is written so."""
        terms = _written_terms(text)
        if terms is None:
            raise InvalidText(text)
        top, bottom = terms
        found = cls(top, bottom)
        # Each ratio is written in one way only, so this also finds leading zeros,
        # a negative zero, a denominator of 1, and terms that are not the lowest.
        if found.text != text:
            raise InvalidText(text)
        return found

    @staticmethod
    def middle(first, second):
        """The ratio halfway between two numbers."""
        return (as_ratio(first) + as_ratio(second)).divided(2)

    def divided(self, other):
        """The quotient by a number."""
        if not is_number(other) or other == 0:
            raise InvalidNumber(other)
        number = as_ratio(other)
        return Ratio(self._top * number.bottom, self._bottom * number.top)

    def __add__(self, other):
        if not is_number(other):
            return NotImplemented
        number = as_ratio(other)
        top = self._top * number.bottom + number.top * self._bottom
        return Ratio(top, self._bottom * number.bottom)

    def __radd__(self, other):
        if not is_number(other):
            return NotImplemented
        return self + other

    def __sub__(self, other):
        if not is_number(other):
            return NotImplemented
        return self + (-as_ratio(other))

    def __rsub__(self, other):
        if not is_number(other):
            return NotImplemented
        return (-self) + other

    def __mul__(self, other):
        if not is_number(other):
            return NotImplemented
        number = as_ratio(other)
        return Ratio(self._top * number.top, self._bottom * number.bottom)

    def __rmul__(self, other):
        if not is_number(other):
            return NotImplemented
        return self * other

    def __neg__(self):
        return Ratio(-self._top, self._bottom)

    def __abs__(self):
        return Ratio(abs(self._top), self._bottom)

    def __bool__(self):
        return bool(self._top != 0)

    def __eq__(self, other):
        if isinstance(other, Ratio):
            return self._top == other.top and self._bottom == other.bottom
        return is_whole(other) and self._bottom == 1 and self._top == other

    def __ne__(self, other):
        return not self == other

    def __lt__(self, other):
        if not is_number(other):
            return NotImplemented
        number = as_ratio(other)
        return self._top * number.bottom < number.top * self._bottom

    def __le__(self, other):
        if not is_number(other):
            return NotImplemented
        number = as_ratio(other)
        return self._top * number.bottom <= number.top * self._bottom

    def __gt__(self, other):
        if not is_number(other):
            return NotImplemented
        number = as_ratio(other)
        return self._top * number.bottom > number.top * self._bottom

    def __ge__(self, other):
        if not is_number(other):
            return NotImplemented
        number = as_ratio(other)
        return self._top * number.bottom >= number.top * self._bottom


def is_number(value):
    """Whether the value is an integer or a ratio."""
    return is_whole(value) or isinstance(value, Ratio)


def as_ratio(number):
    """The same number as a ratio."""
    if isinstance(number, Ratio):
        return number
    return Ratio(number)


def common_bottom(ratios):
    """The least number that all the denominators divide."""
    found = 1
    for ratio in ratios:
        found = lcm(found, ratio.bottom)
    return found


def scaled(ratio, scale):
    """How often a ratio contains the fraction 1 / scale, for a scale that its denominator divides."""
    return ratio.top * (scale // ratio.bottom)


def _written_terms(text):
    """The numerator and the denominator that stand in a text, or None if none stand there."""
    if not isinstance(text, str):
        return None
    top, slash, bottom = text.partition("/")
    if slash == "":
        bottom = "1"
    if not is_digits(top.removeprefix("-"), MOST_DIGITS) or not is_digits(bottom, MOST_DIGITS):
        return None
    if int(bottom) == 0:
        return None
    return int(top), int(bottom)
