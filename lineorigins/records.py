"""Recorded tellings of a whole history, and the prices for which they are cheapest."""

from lineorigins.cheapest import cheapest_price
from lineorigins.errors import InvalidTelling
from lineorigins.places import is_tuple, line_of
from lineorigins.prices import prices_or_usual
from lineorigins.ranges import Ranges
from lineorigins.steps import ranges_where
from lineorigins.tellings import is_telling, links_of, price_of


def is_record(history, value, *, prices=None):
    """Whether the value is a tuple with a telling for each version."""
    prices = prices_or_usual(prices)
    if not is_tuple(value, len(history)):
        return False
    return all([is_telling(history, number, telling, prices=prices) for number, telling in enumerate(value)])


def excess(study, record):
    """By how much each telling costs more than the cheapest ones."""
    _check_record(study, record)
    return tuple([_price(study, number, telling) - cheapest_price(study, number)
                  for number, telling in enumerate(record)])


def recorded_origin(study, record, number, index):
    """The origin of a line if the history is told like this."""
    return recorded_chain(study, record, number, index)[-1]


def recorded_chain(study, record, number, index):
    """The chain of a line if the history is told like this."""
    _check_record(study, record)
    line_of(study.history, number, index)
    found = []
    link = (number, index)
    while link is not None:
        found.append(link)
        version, line = link
        link = links_of(study.history, version, record[version], prices=study.prices)[line]
    return tuple(found)


def right_prices(study, record):
    """The prices of a piece for which all tellings are cheapest, and the first version that leaves none."""
    _check_record(study, record)
    found = Ranges.whole()
    for number, telling in enumerate(record):
        found = found.common(_right_for(study, number, telling))
        if len(found) == 0:
            return found, number
    return found, None


def _check_record(study, value):
    if not is_record(study.history, value, prices=study.prices):
        raise InvalidTelling(value)


def _price(study, number, telling):
    return price_of(study.history, number, telling, prices=study.prices)


def _right_for(study, number, telling):
    """The prices of a piece for which a telling is cheapest."""
    pieces = len([part for part in telling if part[0] == "take"])
    rest = _price(study, number, telling) - study.prices.piece * pieces
    course = study.courses().course(number)
    return ranges_where(course.cells, [cell.sample * pieces + rest == course.price_at(cell.sample)
                                       for cell in course.cells])
