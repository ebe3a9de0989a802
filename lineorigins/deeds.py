"""What an author did to make the text of a version, and the telling that comes of it."""

from lineorigins.errors import InvalidDeeds
from lineorigins.kinds import is_count, is_index, is_listing
from lineorigins.layouts import is_line
from lineorigins.places import is_tuple
from lineorigins.prices import prices_or_usual

MOST_DEEDS = 200
MOST_LINES_ON_THE_WAY = 60


class Desk:
    """The text that deeds have made so far: a list of lines, each with its link."""

    def __init__(self, history, number, layout):
        self.draft = []
        self._history = history
        self._sources = history.ancestors(number)
        self._layout = layout

    def do(self, deed):
        """Do a deed; tells whether the value is one and can be done."""
        if not isinstance(deed, tuple) or len(deed) == 0 or not isinstance(deed[0], str):
            return False
        made = self._made_by(deed[0], deed[1:])
        if made is None or len(made) > MOST_LINES_ON_THE_WAY:
            return False
        self.draft = made
        return True

    def _made_by(self, word, values):
        """The text that a deed makes; None if there is no such deed here."""
        if word == "write":
            return self._written(values)
        if word == "change":
            return self._changed(values)
        if word == "bring":
            return self._brought(values)
        if word == "move":
            return self._moved(values)
        if word == "copy":
            return self._copied(values)
        if word == "remove":
            return self._removed(values)
        return None

    def _written(self, values):
        if not is_tuple(values, 2) or not is_line(values[1]):
            return None
        at, line = values
        return _inserted(self.draft, at, [(line, None)])

    def _changed(self, values):
        if not is_tuple(values, 2) or not is_index(values[0], len(self.draft)) or not is_line(values[1]):
            return None
        at, line = values
        link = self.draft[at][1]
        layout = self._layout
        if link is not None and layout(line) != layout(self._line_at(link)):
            link = None
        return self.draft[:at] + [(line, link)] + self.draft[at + 1:]

    def _brought(self, values):
        if not is_tuple(values, 4) or not is_count(values[0]) or values[0] not in self._sources:
            return None
        source, first, count, to = values
        if not _is_stretch(first, count, len(self._history.version(source))):
            return None
        links = [(source, line) for line in range(first, first + count)]
        return _inserted(self.draft, to, [(self._line_at(link), link) for link in links])

    def _moved(self, values):
        if not is_tuple(values, 3) or not _is_stretch(values[0], values[1], len(self.draft)):
            return None
        at, count, to = values
        return _inserted(self.draft[:at] + self.draft[at + count:], to, self.draft[at:at + count])

    def _copied(self, values):
        if not is_tuple(values, 3) or not _is_stretch(values[0], values[1], len(self.draft)):
            return None
        at, count, to = values
        return _inserted(self.draft, to, self.draft[at:at + count])

    def _removed(self, values):
        if not is_tuple(values, 2) or not _is_stretch(values[0], values[1], len(self.draft)):
            return None
        at, count = values
        return self.draft[:at] + self.draft[at + count:]

    def _line_at(self, link):
        return self._history.version(link[0])[link[1]]


def telling_of(history, number, deeds, *, prices=None):
    """The telling that gives the lines of a version the links that they have after these deeds."""
    version = history.version(number)
    prices = prices_or_usual(prices)
    if not is_listing(deeds) or len(deeds) > MOST_DEEDS:
        raise InvalidDeeds(deeds)
    desk = Desk(history, number, prices.layout)
    for deed in deeds:
        if not desk.do(deed):
            raise InvalidDeeds(deed)
    if tuple([line for line, _ in desk.draft]) != version.lines:
        raise InvalidDeeds(deeds)
    return _longest_pieces([link for _, link in desk.draft], prices.least)


def _inserted(text, to, lines):
    """The text with some lines more from an index on; None if the index is neither in the text nor at its end."""
    if not is_index(to, len(text) + 1):
        return None
    return text[:to] + lines + text[to:]


def _is_stretch(first, count, size):
    """Whether these are the first index and the number, at least 1, of some of so many lines."""
    return is_index(first, size) and is_count(count) and 1 <= count <= size - first


def _longest_pieces(links, least):
    """The telling with these links that has the longest pieces; shorter ones than the least are told as new lines."""
    found = []
    at = 0
    while at < len(links):
        end = at + 1
        while end < len(links) and _goes_on(links[end - 1], links[end]):
            end = end + 1
        if links[at] is None or end - at < least:
            found.extend([("new",)] * (end - at))
        else:
            found.append(("take", links[at][0], links[at][1], end - at))
        at = end
    return tuple(found)


def _goes_on(link, following):
    """Whether the second link leads to the line behind that of the first one."""
    return link is not None and following == (link[0], link[1] + 1)
