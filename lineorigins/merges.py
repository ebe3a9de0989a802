"""Merges, copies, and lines that come back: what a version takes from each of its sources."""

from lineorigins.cheapest import possible_links
from lineorigins.errors import InvalidNumber
from lineorigins.origins import origins
from lineorigins.places import line_of
from lineorigins.ways import extremes


def uses(study, number, source, index):
    """The least and the most that a line of a source is used in cheapest tellings."""
    _check_source(study.history, number, source)
    line_of(study.history, source, index)
    return _uses(study, number, (source, index))


def carried(study, number, source):
    """For each line of a source, whether it is surely, perhaps or never used."""
    _check_source(study.history, number, source)
    lines = range(len(study.history.version(source)))
    return tuple([_certainty(_uses(study, number, (source, index))) for index in lines])


def sides(study, number, index):
    """The sources of the possible links of a line, ascending."""
    found = {link[0]: True for link in possible_links(study, number, index) if link is not None}
    return tuple(found)


def returned(study, number):
    """The lines all of whose possible links lead to ancestors that are no parents, and the others with some such."""
    farther = study.history.farther(number)
    every = []
    some = []
    for index in range(len(study.history.version(number))):
        links = possible_links(study, number, index)
        far = [link for link in links if link is not None and link[0] in farther]
        if len(far) == len(links):
            every.append(index)
        elif far:
            some.append(index)
    return tuple(every), tuple(some)


def written_twice(study, number):
    """The lines that have possible links to at least two parents, and at least two possible origins."""
    parents = study.history.version(number).parents
    found = []
    for index in range(len(study.history.version(number))):
        taken = [source for source in sides(study, number, index) if source in parents]
        if len(taken) >= 2 and len(origins(study, number, index)) >= 2:
            found.append(index)
    return tuple(found)


def _check_source(history, number, source):
    sources = history.ancestors(number)
    if source not in history or source not in sources:
        raise InvalidNumber(source)


def _uses(study, number, place):
    ways = study.ways(number)
    return extremes(ways, [1 if _takes(step, place) else 0 for step in ways.steps])


def _takes(step, place):
    """Whether a step takes the line at this place; it takes no line twice."""
    if step.part[0] == "new":
        return False
    _, source, first, length = step.part
    return source == place[0] and first <= place[1] < first + length


def _certainty(times):
    least, most = times
    if least > 0:
        return "surely"
    return "never" if most == 0 else "perhaps"
