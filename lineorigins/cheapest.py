"""The cheapest tellings of a version."""

from lineorigins.places import line_of
from lineorigins.ratios import Ratio
from lineorigins.ways import extremes, first_telling_with


def cheapest_price(study, number):
    ways = study.ways(number)
    return Ratio(ways.ahead[-1], ways.scale)


def ahead(study, number):
    """For each point the least price of telling the lines before it."""
    ways = study.ways(number)
    return tuple([Ratio(price, ways.scale) for price in ways.ahead])


def behind(study, number):
    """For each point the least price of telling the lines behind it."""
    ways = study.ways(number)
    return tuple([Ratio(price, ways.scale) for price in ways.behind])


def possible_links(study, number, index):
    """The links that the line has in cheapest tellings, sorted."""
    line_of(study.history, number, index)
    return study.ways(number).possible[index]


def count_cheapest(study, number):
    """How many cheapest tellings there are."""
    ways = study.ways(number)
    counts = [1] + [0] * ways.size
    for step in ways.steps:
        counts[step.end] = counts[step.end] + counts[step.begin]
    return counts[ways.size]


def cheapest_tellings(study, number):
    """All cheapest tellings, in list order."""
    ways = study.ways(number)
    steps_at = [[step for step in ways.steps if step.begin == point] for point in range(ways.size)]
    yield from _tellings_behind(steps_at, 0)


def telling_with(study, number, index, link):
    """The first cheapest telling in which the line has this link; None if there is none."""
    line_of(study.history, number, index)
    return first_telling_with(study.ways(number), index, link)


def extent(study, number):
    """The least and the most new lines, and the least and the most pieces, of cheapest tellings."""
    ways = study.ways(number)
    new = [1 if step.part[0] == "new" else 0 for step in ways.steps]
    pieces = [1 - weight for weight in new]
    return extremes(ways, new) + extremes(ways, pieces)


def _tellings_behind(steps_at, point):
    """All ways to tell the lines behind a point by such steps, in list order."""
    if point == len(steps_at):
        yield ()
        return
    for step in steps_at[point]:
        end = step.end
        for rest in _tellings_behind(steps_at, end):
            yield (step.part,) + rest
