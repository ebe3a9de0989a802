"""Hints: lines whose links leave one cheapest telling of a version, and how few of them are enough."""

from lineorigins.cheapest import cheapest_price
from lineorigins.errors import InvalidLine, InvalidNumber, InvalidTelling
from lineorigins.kinds import is_count, is_index
from lineorigins.places import is_ascending
from lineorigins.tellings import is_telling, links_of, price_of

# A set of lines is an integer here, with a bit for each line: so there are few sets, however many tellings there are.


def is_enough(study, number, telling, lines):
    """Whether no other cheapest telling has the same links at all of these lines."""
    _check_cheapest(study, number, telling)
    if not _are_lines(lines, len(study.history.version(number))):
        raise InvalidLine(lines)
    return _set_of(lines) not in _others(study, number, telling)


def fewest_hints(study, number, telling):
    """The first, in list order, of the shortest tuples of lines that are enough."""
    _check_cheapest(study, number, telling)
    return _fewest(_others(study, number, telling), len(study.history.version(number)))


def hint_paper(study, number, telling):
    """A paper which shows that one line less is not enough; None if no line is needed."""
    _check_cheapest(study, number, telling)
    size = len(study.history.version(number))
    others = _others(study, number, telling)
    fewest = _fewest(others, size)
    if len(fewest) == 0:
        return None
    return tuple([others[_set_of(lines)] for lines in _choices(size, len(fewest) - 1)])


def accepts_hints(study, number, telling, most, value):
    """Whether the value is a paper which shows that so many lines are not enough."""
    _check_cheapest(study, number, telling)
    if not is_count(most):
        raise InvalidNumber(most)
    size = len(study.history.version(number))
    if most > size or not isinstance(value, tuple):
        return False
    choices = _choices(size, most)
    if len(value) != len(choices):
        return False
    return all([_is_other(study, number, telling, item, lines) for item, lines in zip(value, choices)])


def _check_cheapest(study, number, value):
    if not _is_cheapest(study, number, value):
        raise InvalidTelling(value)


def _is_cheapest(study, number, value):
    """Whether the value is a cheapest telling of a version; raises the error of a number that is not there."""
    if not is_telling(study.history, number, value, prices=study.prices):
        return False
    return price_of(study.history, number, value, prices=study.prices) == cheapest_price(study, number)


def _are_lines(value, size):
    """Whether the value is an ascending tuple of indices of so many lines, none of them twice."""
    return isinstance(value, tuple) and all([is_index(item, size) for item in value]) and is_ascending(value)


def _set_of(lines):
    return sum([1 << line for line in lines])


def _choices(size, count):
    """All ascending tuples of so many of the lines, in list order."""
    found = [()]
    for _ in range(count):
        found = [lines + (line,) for lines in found for line in range(lines[-1] + 1 if lines else 0, size)]
    return found


def _fewest(others, size):
    """The first of the shortest tuples of lines at which no other telling has the same links."""
    return [lines for count in range(size + 1) for lines in _choices(size, count) if _set_of(lines) not in others][0]


def _others(study, number, telling):
    """For each set of lines at which some other cheapest telling has the same links, such a telling."""
    found = _others_by_sameness(study, number, telling)
    size = len(study.history.version(number))
    for lines in reversed(range(1 << size)):
        for line in range(size):
            more = lines | (1 << line)
            if lines not in found and more in found:
                found[lines] = found[more]
    return found


def _others_by_sameness(study, number, telling):
    """Other cheapest tellings, by the set of all lines at which they have the same links; one for each set."""
    ways = study.ways(number)
    links = links_of(study.history, number, telling, prices=study.prices)
    steps = {(step.begin, step.end, _sameness(step, links)): step for step in ways.steps}
    found = [{} for _ in range(ways.size + 1)]
    found[0][0] = ()
    # These stand in the order of the steps, so what leads to a point comes before what leads on from it.
    for (begin, end, same), step in steps.items():
        for lines, parts in list(found[begin].items()):
            found[end][lines | same] = parts + (step.part,)
    # Different cheapest tellings have different links at some line: what is the same at all of them is no other one.
    return {lines: parts for lines, parts in found[ways.size].items() if lines != (1 << ways.size) - 1}


def _sameness(step, links):
    """The set of the lines to which a step gives these links."""
    return _set_of([line for line in range(step.begin, step.end) if step.link(line) == links[line]])


def _is_other(study, number, telling, value, lines):
    """Whether the value is another cheapest telling with the same links at these lines."""
    if not _is_cheapest(study, number, value) or value == telling:
        return False
    wanted = links_of(study.history, number, telling, prices=study.prices)
    found = links_of(study.history, number, value, prices=study.prices)
    return all([found[line] == wanted[line] for line in lines])
