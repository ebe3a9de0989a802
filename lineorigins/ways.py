"""The steps by which a version can be told, and those of its cheapest tellings."""

from lineorigins.places import places_of
from lineorigins.ratios import common_bottom, scaled
from lineorigins.tellings import part_length


class Step:
    """A part where it can stand: it leads from a point to a later one, and has a price on some scale."""

    def __init__(self, begin, part, price):
        self.begin = begin
        self.end = begin + part_length(part)
        self.part = part
        self.price = price

    def covers(self, index):
        return self.begin <= index < self.end

    def link(self, index):
        """The link that it gives a line that it covers."""
        if self.part[0] == "new":
            return None
        return (self.part[1], self.part[2] + index - self.begin)


class Ways:
    """The cheapest ways to tell a version, with prices as integers on a scale."""

    def __init__(self, history, number, prices):
        scale = price_scale(prices, [])
        steps = all_steps(history, number, prices, scale)
        size = len(history.version(number))
        ahead = prices_from(steps, 0)
        behind = prices_to(steps, size)
        self.size = size
        self.scale = scale
        self.ahead = [ahead[point] for point in range(size + 1)]
        self.behind = [behind[point] for point in range(size + 1)]
        # Every cheapest telling consists of such steps only, and wherever they lead on from point to point
        # they tell the version cheapest: so whatever is possible is seen from them alone.
        self.steps = [step for step in steps if ahead[step.begin] + step.price + behind[step.end] == ahead[size]]
        self.possible = _links_by_line(history, number, self.steps)


def price_scale(prices, ratios):
    """The scale on which these prices and ratios are integers: the price of a new line."""
    return common_bottom([prices.piece, prices.far, prices.alike, *ratios])


def all_steps(history, number, prices, scale):
    """All steps of a version, by their beginnings, and those from one point in list order of their parts."""
    version = history.version(number)
    found = [[Step(point, ("new",), scale)] for point in range(len(version))]
    for source in history.ancestors(number):
        olds = history.version(source).lines
        price = scaled(prices.piece if source in version.parents else prices.piece + prices.far, scale)
        extras = _extras(olds, version.lines, prices.layout, scaled(prices.alike, scale))
        for first in range(len(olds)):
            for point in range(len(version)):
                found[point].extend(_pieces(point, (source, first), extras, price)[prices.least - 1:])
    return [step for steps in found for step in steps]


def prices_from(steps, start):
    """The least price of telling the lines from a point to each point that is not before it."""
    found = {start: 0}
    for step in steps:
        if step.begin in found:
            keep_least(found, step.end, found[step.begin] + step.price)
    return found


def prices_to(steps, end):
    """The least price of telling the lines from each point to the end."""
    found = {end: 0}
    for step in reversed(list(steps)):
        keep_least(found, step.begin, step.price + found[step.end])
    return found


def keep_least(prices, key, price):
    """Put in a price if there is none for this key, or a higher one."""
    if key not in prices or price < prices[key]:
        prices[key] = price


def first_tellings(steps, end):
    """For each point from which such steps lead to the end, the first telling of the lines behind it, in list order."""
    found = {end: ()}
    # Later steps from the same point have later parts, so the first one is put in last.
    for step in reversed(list(steps)):
        if step.end in found:
            found[step.begin] = (step.part,) + found[step.end]
    return found


def first_telling(ways):
    return first_tellings(ways.steps, ways.size)[0]


def first_telling_with(ways, index, link):
    """The first cheapest telling in which the line has this link; None if there is none."""
    steps = [step for step in ways.steps if not step.covers(index) or step.link(index) == link]
    return first_tellings(steps, ways.size).get(0)


def extremes(ways, weights):
    """The least and the most that the steps of a cheapest telling weigh together; each step has a weight."""
    least = {0: 0}
    most = {0: 0}
    for step, weight in zip(ways.steps, weights):
        keep_least(least, step.end, least[step.begin] + weight)
        high = most[step.begin] + weight
        if step.end not in most or high > most[step.end]:
            most[step.end] = high
    return least[ways.size], most[ways.size]


def _extras(olds, lines, layout, alike):
    """For the indices of each two lines that are alike, what taking the one from the other adds to a price."""
    old_keys = [layout(old) for old in olds]
    keys = [layout(line) for line in lines]
    return {(at, index): 0 if olds[at] == lines[index] else alike
            for at in range(len(olds)) for index in range(len(lines)) if old_keys[at] == keys[index]}


def _pieces(point, start, extras, price):
    """The pieces of every length that can be taken at a point, from a line of a source on."""
    source, first = start
    found = []
    length = 0
    while (first + length, point + length) in extras:
        price = price + extras[(first + length, point + length)]
        length = length + 1
        found.append(Step(point, ("take", source, first, length), price))
    return found


def _links_by_line(history, number, steps):
    """For each line of a version, the sorted tuple of the links that these steps give it."""
    links = [None] + places_of(history, history.ancestors(number))
    found = {(index, step.link(index)): True for step in steps for index in range(step.begin, step.end)}
    lines = range(len(history.version(number)))
    return [tuple([link for link in links if (index, link) in found]) for index in lines]
