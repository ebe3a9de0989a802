"""Tellings of a version: where its lines were taken from."""

from lineorigins.errors import InvalidTelling
from lineorigins.kinds import is_count
from lineorigins.prices import prices_or_usual
from lineorigins.ratios import Ratio


def is_telling(history, number, value, *, prices=None):
    """Whether the value is a telling of this version."""
    version = history.version(number)
    prices = prices_or_usual(prices)
    if not isinstance(value, tuple):
        return False
    point = 0
    for part in value:
        if not is_part(history, number, point, part, prices):
            return False
        point = point + part_length(part)
    return point == len(version)


def price_of(history, number, telling, *, prices=None):
    """The sum of the prices of the parts."""
    if not is_telling(history, number, telling, prices=prices):
        raise InvalidTelling(telling)
    prices = prices_or_usual(prices)
    total = Ratio(0)
    point = 0
    for part in telling:
        total = total + part_price(history, number, point, part, prices)
        point = point + part_length(part)
    return total


def links_of(history, number, telling, *, prices=None):
    """The links of all lines."""
    if not is_telling(history, number, telling, prices=prices):
        raise InvalidTelling(telling)
    links = []
    for part in telling:
        links.extend(part_links(part))
    return tuple(links)


def is_part(history, number, point, value, prices):
    """Whether the value is a part that can stand at this point of the version."""
    if _is_new(value):
        return point < len(history.version(number))
    if not _is_take(value):
        return False
    _, source, first, length = value
    if source not in history.ancestors(number) or length < prices.least:
        return False
    if first + length > len(history.version(source)) or point + length > len(history.version(number)):
        return False
    layout = prices.layout
    return all([layout(old) == layout(line) for old, line in _line_pairs(history, number, point, value)])


def part_length(part):
    """How many lines of the version a part is."""
    if part[0] == "new":
        return 1
    return part[3]


def part_price(history, number, point, part, prices):
    """The price of a part that stands at this point of the version."""
    if part[0] == "new":
        return Ratio(1)
    price = prices.piece
    if part[1] not in history.version(number).parents:
        price = price + prices.far
    changed = len([old for old, line in _line_pairs(history, number, point, part) if old != line])
    return price + prices.alike * changed


def part_links(part):
    """The links that a part gives its lines, in order."""
    if part[0] == "new":
        return [None]
    _, source, first, length = part
    return [(source, first + step) for step in range(length)]


def _is_new(value):
    return isinstance(value, tuple) and len(value) == 1 and _is_word(value[0], "new")


def _is_take(value):
    if not isinstance(value, tuple) or len(value) != 4 or not _is_word(value[0], "take"):
        return False
    return all([is_count(item) for item in value[1:]])


def _is_word(value, word):
    return isinstance(value, str) and value == word


def _line_pairs(history, number, point, part):
    """For each line of a piece, the line that it is taken from and the line itself."""
    _, source, first, length = part
    old = history.version(source).lines[first:first + length]
    told = history.version(number).lines[point:point + length]
    return [(old[step], told[step]) for step in range(length)]
