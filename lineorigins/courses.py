"""How the answers change as the price of a piece runs through all positive fractions."""

from lineorigins.joints import head_at, union
from lineorigins.ratios import Ratio, scaled
from lineorigins.ways import Ways, all_steps, keep_least, price_scale


class Cell:
    """One price of a piece, or the open range of prices between two; throughout it the answers are the same."""

    def __init__(self, low, high):
        self.low = low
        self.high = high
        # Since the answers are the same, one price stands for all.
        self.sample = low + 1 if high is None else Ratio.middle(low, high)

    def has(self, price):
        if self.low == self.high:
            return price == self.low
        return self.low < price and (self.high is None or price < self.high)


class Course:
    """The cheapest tellings of one version, for all prices of a piece."""

    def __init__(self, history, number, prices):
        self.bends = _bends(history, number, prices)
        self.cells = cells_between([bend[0] for bend in self.bends[1:]])
        self._possible = [Ways(history, number, prices.with_piece(cell.sample)).possible for cell in self.cells]

    def price_at(self, price):
        """The price of the cheapest tellings at a price of a piece."""
        return [price * pieces + rest for _, high, pieces, rest in self.bends if high is None or price <= high][0]

    def possible_links(self, index):
        """The possible links of a line in each cell."""
        return [links[index] for links in self._possible]

    def possible_at(self, price):
        """The possible links of each line at a price of a piece."""
        return [links for cell, links in zip(self.cells, self._possible) if cell.has(price)][0]


class Courses:
    """The courses of all versions, and the origins to which they lead together."""

    def __init__(self, history, prices):
        self._courses = [Course(history, number, prices) for number in range(len(history))]
        self.steps = _ascending([bend[0] for course in self._courses for bend in course.bends[1:]])
        self.cells = cells_between(self.steps)
        self._origins = [_origins_at(self._courses, cell.sample) for cell in self.cells]

    def course(self, number):
        return self._courses[number]

    def possible_origins(self, place):
        """The set of the heads of the possible origins of a line, in each cell."""
        return [found[place] for found in self._origins]


def cells_between(ratios):
    """The cells of these ascending prices, and those below, between and above them."""
    found = []
    low = Ratio(0)
    for ratio in ratios:
        found.append(Cell(low, ratio))
        found.append(Cell(ratio, ratio))
        low = ratio
    found.append(Cell(low, None))
    return found


def _bends(history, number, prices):
    """The ranges in which the cheapest tellings have one number of pieces, with this number and the price of the rest.

    A telling with fewer pieces and a dearer rest becomes the cheaper one where a piece is dear enough. In the last
    range no piece is taken, since a telling of new lines only is there at any price.
    """
    scale = price_scale(prices, [])
    rests = _least_rests(history, number, prices, scale)
    pieces = _count_when_free(rests)
    found = []
    low = Ratio(0)
    while pieces > 0:
        high = None
        following = 0
        for fewer in reversed(range(pieces)):
            if fewer in rests:
                meet = Ratio(rests[fewer] - rests[pieces], (pieces - fewer) * scale)
                if high is None or meet <= high:
                    high = meet
                    following = fewer
        found.append((low, high, pieces, Ratio(rests[pieces], scale)))
        low = high
        pieces = following
    found.append((low, None, 0, Ratio(rests[0], scale)))
    return tuple(found)


def _least_rests(history, number, prices, scale):
    """For each number of pieces in tellings of a version, the least price of all but the pieces themselves."""
    piece = scaled(prices.piece, scale)
    rests = {}
    for step in all_steps(history, number, prices, scale):
        taken = 0 if step.part[0] == "new" else 1
        keep_least(rests, (step.begin, step.end, taken), step.price - piece * taken)
    size = len(history.version(number))
    found = [{} for _ in range(size + 1)]
    found[0][0] = 0
    # These stand in the order of the steps, so what leads to a point comes before what leads on from it.
    for (begin, end, taken), rest in rests.items():
        for pieces, price in list(found[begin].items()):
            keep_least(found[end], pieces + taken, price + rest)
    return found[size]


def _count_when_free(rests):
    """How many pieces the cheapest tellings have if a piece costs next to nothing, but not nothing."""
    found = 0
    for pieces in sorted([int(pieces) for pieces in rests]):
        if rests[pieces] < rests[found]:
            found = pieces
    return found


def _ascending(ratios):
    """These ratios in ascending order, each once."""
    found = []
    for ratio in ratios:
        if ratio not in found:
            found.insert(len([other for other in found if other < ratio]), ratio)
    return tuple(found)


def _origins_at(courses, price):
    """For each line, the set of the heads of its possible origins at a price of a piece."""
    found = {}
    for number, course in enumerate(courses):
        for index, links in enumerate(course.possible_at(price)):
            own = 1 << head_at((number, index))
            found[(number, index)] = union([own if link is None else found[link] for link in links])
    return found
