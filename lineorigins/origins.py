"""Where lines can come from, over all tellings of the whole history."""

from lineorigins.cheapest import possible_links, telling_with
from lineorigins.errors import InvalidLine
from lineorigins.places import is_place, line_of, places_of
from lineorigins.ways import first_telling


class LineAt:
    """A line with its answers."""

    def __init__(self, study, number, index):
        self._text = line_of(study.history, number, index)
        self._study = study
        self._place = (number, index)
        self._links = possible_links(study, number, index)
        self._origins = origins(study, number, index)
        self._touches = touches(study, number, index)
        self._author = _shared_author(study.history, self._origins)

    @property
    def place(self):
        return self._place

    @property
    def text(self):
        return self._text

    @property
    def links(self):
        return self._links

    @property
    def origins(self):
        return self._origins

    @property
    def touches(self):
        return self._touches

    @property
    def is_sure(self):
        """Whether the line has one possible origin."""
        return len(self._origins) == 1

    @property
    def author(self):
        """The author of all possible origins if it is the same, otherwise None."""
        return self._author

    def __eq__(self, other):
        return isinstance(other, LineAt) and self._place == other._place and self._study == other._study


def lines_at(study, number):
    """The lines of a version with their answers, in order."""
    for index in range(len(study.history.version(number))):
        yield LineAt(study, number, index)


def origins(study, number, index):
    """The possible origins of a line, sorted."""
    line_of(study.history, number, index)
    return tuple([place for place in places_reached(study, number, index) if None in _links(study, place)])


def touches(study, number, index):
    """The possible last touches of a line, sorted."""
    line_of(study.history, number, index)
    same = {}
    touched = {}
    for place in _places_up_to(study, number):
        links = _links(study, place)
        same[place] = [link for link in links if _is_same(study.history, place, link)]
        touched[place] = len(same[place]) < len(links)
    return tuple([place for place in _followed(same, (number, index)) if touched[place]])


def chains(study, number, index):
    """All possible chains of a line, in list order."""
    line_of(study.history, number, index)
    links = {place: _links(study, place) for place in _places_up_to(study, number)}
    place = (number, index)
    yield from _chains_from(links, place)


def count_chains(study, number, index):
    """How many possible chains a line has."""
    line_of(study.history, number, index)
    counts = {None: 1}
    for place in _places_up_to(study, number):
        counts[place] = sum([counts[link] for link in _links(study, place)])
    return counts[(number, index)]


def chain_to(study, number, index, origin):
    """The first possible chain that ends at this origin; None if there is none."""
    line_of(study.history, number, index)
    found = {None: None}
    for place in _places_up_to(study, number):
        links = _links(study, place)
        rests = [found[link] for link in links if found[link] is not None]
        if place == origin and None in links:
            found[place] = (place,)
        elif rests:
            found[place] = (place,) + rests[0]
        else:
            found[place] = None
    return found[(number, index)]


def told_by(study, chain):
    """A telling of the whole history in which this is the chain of its first place."""
    if not _is_possible_chain(study, chain):
        raise InvalidLine(chain)
    told = [first_telling(study.ways(number)) for number in range(len(study.history))]
    for at, (number, index) in enumerate(chain):
        told[number] = telling_with(study, number, index, _link_in(chain, at))
    return tuple(told)


def places_reached(study, number, index):
    """The places that possible chains of a line come to, ascending."""
    places = _places_up_to(study, number)
    nexts = {place: [link for link in _links(study, place) if link is not None] for place in places}
    return _followed(nexts, (number, index))


def _places_up_to(study, number):
    """All places that chains of lines of a version could come to: links lead to places before them."""
    return places_of(study.history, list(range(number + 1)))


def _links(study, place):
    return study.ways(place[0]).possible[place[1]]


def _followed(nexts, start):
    """The places that are reached from a place, itself included, where all places stand in order."""
    found = {start: True}
    for place in reversed(list(nexts)):
        if place in found:
            for following in nexts[place]:
                found[following] = True
    return [place for place in nexts if place in found]


def _is_same(history, place, link):
    """Whether a line is equal to the line of its link."""
    return link is not None and line_of(history, *place) == line_of(history, *link)


def _chains_from(links, place):
    """The possible chains from a place on, in list order; the one that ends there comes first."""
    for link in links[place]:
        if link is None:
            yield (place,)
        else:
            for rest in _chains_from(links, link):
                yield (place,) + rest


def _is_possible_chain(study, value):
    if not isinstance(value, tuple) or len(value) == 0:
        return False
    if not all([is_place(study.history, item) for item in value]):
        return False
    return all([_link_in(value, at) in _links(study, place) for at, place in enumerate(value)])


def _link_in(chain, at):
    """The link that the place at this index of a chain has."""
    return chain[at + 1] if at + 1 < len(chain) else None


def _shared_author(history, places):
    """The author of the versions of all these places, None if they have several."""
    authors = [history.version(place[0]).author for place in places]
    return authors[0] if len(set(authors)) == 1 else None
