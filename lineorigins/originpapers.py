"""Papers for the origins of a line, which show that no others are possible."""

from lineorigins.bounds import Bounds, are_bounds, study_bounds
from lineorigins.cheapest import possible_links
from lineorigins.kinds import is_index
from lineorigins.origins import places_reached
from lineorigins.places import are_links, is_ascending, is_place, is_tuple, line_of
from lineorigins.prices import prices_or_usual
from lineorigins.tellings import is_telling, price_of
from lineorigins.ways import first_telling


def origin_paper(study, number, index):
    """A paper for the possible origins of a line."""
    line_of(study.history, number, index)
    places = places_reached(study, number, index)
    indices = {}
    for version, line in reversed(list(places)):
        indices[version] = [line] + indices.get(version, [])
    return tuple([_entry(study, version, lines) for version, lines in indices.items()])


def accepts_origins(history, number, index, origins, value, *, prices=None):
    """Whether the value is accepted for these origins."""
    line_of(history, number, index)
    prices = prices_or_usual(prices)
    if not _are_places(history, origins) or not _are_entries(history, value, prices):
        return False
    rows = {(entry[0], line): links for entry in value for line, links in entry[4]}
    if (number, index) not in rows or not _are_closed(rows, origins):
        return False
    return all([_holds(history, entry, prices) for entry in value])


def _entry(study, number, lines):
    rows = tuple([(line, possible_links(study, number, line)) for line in lines])
    return (number, first_telling(study.ways(number))) + study_bounds(study, number) + (rows,)


def _are_places(history, value):
    """Whether the value is a sorted tuple of places without duplicates."""
    if not isinstance(value, tuple) or not all([is_place(history, item) for item in value]):
        return False
    return is_ascending(value)


def _are_entries(history, value, prices):
    """Whether the value is a tuple of entries with descending numbers, whatever they say."""
    if not isinstance(value, tuple) or not all([_is_entry(history, item, prices) for item in value]):
        return False
    return is_ascending([-entry[0] for entry in value])


def _is_entry(history, value, prices):
    if not is_tuple(value, 5) or value[0] not in history:
        return False
    number, telling, prices_ahead, prices_behind, rows = value
    points = len(history.version(number)) + 1
    if not is_telling(history, number, telling, prices=prices):
        return False
    return are_bounds([prices_ahead, prices_behind], points) and _are_rows(history, number, rows)


def _are_rows(history, number, value):
    """Whether the value is a tuple of rows of a version, with ascending indices."""
    if not isinstance(value, tuple) or not all([_is_row(history, number, item) for item in value]):
        return False
    return is_ascending([row[0] for row in value])


def _is_row(history, number, value):
    if not is_tuple(value, 2) or not is_index(value[0], len(history.version(number))) or not are_links(value[1]):
        return False
    sources = history.ancestors(number)
    return all([link is None or link[0] in sources and is_place(history, link) for link in value[1]])


def _are_closed(rows, origins):
    """Whether every link leads to a row or, where a line is new, to an origin, and every origin is reached so."""
    for place, links in rows.items():
        for link in links:
            if link is None and place not in origins or link is not None and link not in rows:
                return False
    return all([place in rows and None in rows[place] for place in origins])


def _holds(history, entry, prices):
    """Whether an entry shows that the lines of its rows have no other links."""
    number, telling, prices_ahead, prices_behind, rows = entry
    price = price_of(history, number, telling, prices=prices)
    bounds = Bounds(history, number, prices, price, [prices_ahead, prices_behind])
    if not bounds.hold():
        return False
    steps = bounds.open_steps()
    return all([step.link(line) in links for line, links in rows for step in steps if step.covers(line)])
