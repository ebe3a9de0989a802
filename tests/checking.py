"""Papers checked without the program, condition by condition as the document words them, by going through all steps.

Only values of plain kinds are checked here: numbers, strings, ratios, None, tuples, lists and dicts of these.
"""

from fractions import Fraction

from lineorigins.ratios import Ratio
from tests.listing import fraction, none_first


def is_count(value):
    return type(value) is int and value >= 0


def is_link(value):
    return value is None or type(value) is tuple and len(value) == 2 and all(map(is_count, value))


def is_sorted(values):
    keys = [none_first(value) for value in values]
    return all([one < other for one, other in zip(keys, keys[1:])])


def are_ratios(value, points):
    return type(value) is tuple and len(value) == points and all([type(item) is Ratio for item in value])


class Checker:

    def __init__(self, listing, number):
        self.listing, self.number = listing, number
        self.size = len(listing.texts[number])
        self.steps = [(point, point + len(links), links, price) for point in range(self.size)
                      for _, links, price in listing.steps(number, point)]
        # By how they are written, since True equals 1.
        self.tellings = {repr(telling): (links, price) for telling, links, price in listing.told_behind(number, 0)}

    def told(self, value):
        """The links and prices of tellings; None if one is none."""
        found = [self.tellings.get(repr(item)) for item in value]
        return None if None in found else found

    def bounds_hold(self, ahead, behind):
        """The conditions on ahead and behind, but for ahead at the end."""
        if ahead[0] != 0 or behind[-1] != 0:
            return False
        for begin, end, _, price in self.steps:
            if fraction(ahead[end]) > fraction(ahead[begin]) + price:
                return False
            if fraction(behind[begin]) > fraction(behind[end]) + price:
                return False
        return True

    def excludes(self, index, links, ahead, behind, limit):
        """Whether each step that gives the line another link costs more than the limit."""
        for begin, end, told, price in self.steps:
            if begin <= index < end and told[index - begin] not in links:
                if fraction(ahead[begin]) + price + fraction(behind[end]) <= limit:
                    return False
        return True

    def accepts_links(self, index, links, value):
        if type(links) is not tuple or len(links) == 0 or not all(map(is_link, links)) or not is_sorted(links):
            return False
        if type(value) is not tuple or len(value) != 3:
            return False
        tellings, ahead, behind = value
        if type(tellings) is not tuple or not are_ratios(ahead, self.size + 1) or not are_ratios(behind, self.size + 1):
            return False
        told = self.told(tellings)
        if told is None or tuple([found[index] for found, _ in told]) != links:
            return False
        price = told[0][1]
        if any([other != price for _, other in told]) or ahead[-1] != Ratio(price.numerator, price.denominator):
            return False
        return self.bounds_hold(ahead, behind) and self.excludes(index, links, ahead, behind, price)

    def accepts_pairs(self, index, other, pairs, value):
        if type(pairs) is not tuple or len(pairs) == 0:
            return False
        if not all([type(pair) is tuple and len(pair) == 2 and all(map(is_link, pair)) for pair in pairs]):
            return False
        if not is_sorted(pairs) or type(value) is not tuple or len(value) != 4:
            return False
        tellings, ahead, behind, between = value
        if type(tellings) is not tuple or not are_ratios(ahead, self.size + 1) or not are_ratios(behind, self.size + 1):
            return False
        if type(between) is not tuple or len(between) != self.size + 1:
            return False
        told = self.told(tellings)
        if not all([are_ratios(row, self.size + 1) for row in between]) or told is None:
            return False
        if tuple([(links[index], links[other]) for links, _ in told]) != pairs:
            return False
        price = told[0][1]
        if any([another != price for _, another in told]) or fraction(ahead[-1]) != price:
            return False
        if not self.bounds_hold(ahead, behind) or not self.between_holds(between):
            return False
        return self.excludes_pairs(index, other, pairs, (ahead, behind, between), price)

    def between_holds(self, between):
        for point in range(self.size + 1):
            if between[point][point] != 0:
                return False
            for begin, end, _, price in self.steps:
                if begin >= point and fraction(between[point][end]) > fraction(between[point][begin]) + price:
                    return False
        return True

    def excludes_pairs(self, index, other, pairs, bounds, limit):
        ahead, behind, between = bounds
        low, high = min(index, other), max(index, other)
        for begin, end, told, price in self.steps:
            if begin <= low and high < end and (told[index - begin], told[other - begin]) not in pairs:
                if fraction(ahead[begin]) + price + fraction(behind[end]) <= limit:
                    return False
        for begin, end, told, price in self.steps:
            for start, finish, more, rest in self.steps:
                if begin <= low < end <= start <= high < finish:
                    pair = (told[low - begin], more[high - start])
                    if (pair if index <= other else pair[::-1]) not in pairs:
                        total = fraction(ahead[begin]) + price + fraction(between[end][start]) + rest
                        if total + fraction(behind[finish]) <= limit:
                            return False
        return True


def accepts_origins(checkers, number, index, origins, value):
    """Here the checkers of all versions are asked."""
    places = checkers[number].listing.places
    if type(origins) is not tuple or not all([is_link(item) and item in places for item in origins]):
        return False
    if not is_sorted(origins) or type(value) is not tuple:
        return False
    rows, numbers = {}, []
    for entry in value:
        if type(entry) is not tuple or len(entry) != 5 or not is_count(entry[0]) or entry[0] >= len(checkers):
            return False
        if not entry_holds(checkers[entry[0]], entry, places):
            return False
        numbers.append(entry[0])
        rows.update({(entry[0], line): links for line, links in entry[4]})
    if numbers != sorted(set(numbers), reverse=True) or (number, index) not in rows:
        return False
    if any([link is not None and link not in rows for links in rows.values() for link in links]):
        return False
    return set(origins) == {place for place, links in rows.items() if None in links}


def entry_holds(checker, entry, places):
    number, telling, ahead, behind, rows = entry
    told = checker.told([telling])
    if told is None or not are_ratios(ahead, checker.size + 1) or not are_ratios(behind, checker.size + 1):
        return False
    limit = told[0][1]
    if type(rows) is not tuple or not checker.bounds_hold(ahead, behind) or fraction(ahead[-1]) > limit:
        return False
    sources = checker.listing.ancestors(number)
    for row in rows:
        if type(row) is not tuple or len(row) != 2 or not is_count(row[0]) or row[0] >= checker.size:
            return False
        line, links = row
        if type(links) is not tuple or len(links) == 0 or not all(map(is_link, links)) or not is_sorted(links):
            return False
        if not all([link is None or link in places and link[0] in sources for link in links]):
            return False
        if not checker.excludes(line, links, ahead, behind, limit):
            return False
    return is_sorted([row[0] for row in rows])


def changed(value, source):
    """The value with one change somewhere inside, of a kind that a false paper could have."""
    if type(value) is tuple and value and source.random() < 0.85:
        at = source.randrange(len(value))
        if source.random() < 0.7:
            return value[:at] + (changed(value[at], source),) + value[at + 1:]
        return source.choice([
            lambda: value[:at] + value[at + 1:], lambda: value[:at] + (value[at],) + value[at:],
            lambda: value[::-1], lambda: value[:at] + (source.choice(value),) + value[at + 1:]])()
    if type(value) is Ratio:
        step = source.choice([Ratio(1, 6), Ratio(1, 2), Ratio(1), Ratio(1, 997)])
        return source.choice([value + step, value - step, value - step, value.top, None, Fraction(1)])
    if type(value) is int:
        return source.choice([value + 1, value - 1, value == 1, 0])
    if type(value) is tuple:
        return source.choice([list(value), value + (None,), value + ((0, 0),), value + (("new",),), None])
    return source.choice([None, (0, 0), (0, 1), (1, 0), 0, "new", ()])
