"""All tellings of small histories, listed one by one without the program; prices are taken from it as they are."""

import itertools
from fractions import Fraction

NEW = ("new",)


def take(source, first, length):
    return ("take", source, first, length)


def fraction(ratio):
    return Fraction(ratio.top, ratio.bottom)


def none_first(value):
    """What sorts links, pairs of links and the like, where None comes first."""
    if value is None:
        return ()
    return tuple([none_first(item) for item in value]) if isinstance(value, tuple) else value


def in_order(values):
    return tuple(sorted(set(values), key=none_first))


class Listing:
    """The cheapest tellings of every version, their links, and all tellings of the whole history."""

    def __init__(self, history, prices):
        self.texts = [version.lines for version in history]
        self.parents = [version.parents for version in history]
        self.authors = [version.author for version in history]
        self.prices = prices
        self.tellings, self.links, self.price = [], [], []
        for number in range(len(self.texts)):
            found = list(self.told_behind(number, 0))
            self.price.append(min([price for _, _, price in found]))
            cheapest = sorted([(telling, links) for telling, links, price in found if price == self.price[-1]])
            self.tellings.append([telling for telling, _ in cheapest])
            self.links.append([links for _, links in cheapest])
        self.places = [(number, index) for number, text in enumerate(self.texts) for index in range(len(text))]

    def ancestors(self, number):
        found = set(self.parents[number])
        for parent in self.parents[number]:
            found |= set(self.ancestors(parent))
        return sorted(found)

    def key(self, line):
        kept = "".join([mark for mark in line if mark not in self.prices.layout.ignored])
        return kept.lower() if self.prices.layout.folded else kept

    def steps(self, number, point):
        """The parts that can stand at a point, with their links and prices."""
        text = self.texts[number]
        yield NEW, (None,), Fraction(1)
        for source in self.ancestors(number):
            for first in range(len(self.texts[source])):
                longest = min(len(text) - point, len(self.texts[source]) - first)
                for length in range(self.prices.least, longest + 1):
                    olds, lines = self.texts[source][first:first + length], text[point:point + length]
                    if all([self.key(old) == self.key(line) for old, line in zip(olds, lines)]):
                        price = fraction(self.prices.piece)
                        if source not in self.parents[number]:
                            price += fraction(self.prices.far)
                        price += fraction(self.prices.alike) * sum([old != line for old, line in zip(olds, lines)])
                        links = tuple([(source, first + at) for at in range(length)])
                        yield take(source, first, length), links, price

    def told_behind(self, number, point, end=None):
        """All tellings of the lines from a point to the end, or to another point, with links and prices."""
        end = len(self.texts[number]) if end is None else end
        if point == end:
            yield (), (), Fraction(0)
            return
        for part, links, price in self.steps(number, point):
            if point + len(links) <= end:
                for rest, more, total in self.told_behind(number, point + len(links), end):
                    yield (part,) + rest, links + more, price + total

    def least_price(self, number, point, end):
        return min([price for _, _, price in self.told_behind(number, point, end)])

    def count_whole(self):
        found = 1
        for tellings in self.tellings:
            found *= len(tellings)
        return found

    def whole(self):
        """The links of every version, for each telling of the whole history."""
        return itertools.product(*self.links)

    def chain(self, links, place):
        """The chain of a line, if these are the links of every version."""
        chain = [place]
        while links[chain[-1][0]][chain[-1][1]] is not None:
            chain.append(links[chain[-1][0]][chain[-1][1]])
        return tuple(chain)

    def chains(self):
        """For each line, the set of its chains in all tellings of the whole history."""
        found = {place: set() for place in self.places}
        for links in self.whole():
            for place in self.places:
                found[place].add(self.chain(links, place))
        return found

    def origins(self):
        """For each line, the set of its origins, link by link: each version is told on its own."""
        found = {}
        for number, index in self.places:
            links = {links[index] for links in self.links[number]}
            found[number, index] = set().union(*[{(number, index)} if link is None else found[link] for link in links])
        return found

    def touch(self, chain):
        """The last touch of a line with this chain."""
        for place, link in zip(chain, chain[1:]):
            if self.texts[place[0]][place[1]] != self.texts[link[0]][link[1]]:
                return place
        return chain[-1]


class Spread:
    """All tellings of a small history with what they cost, however dear a piece is."""

    def __init__(self, listing):
        self.listing = listing
        piece = fraction(listing.prices.piece)
        # For each version, what tellings cost beside their pieces, with the links that lines have at this cost.
        self.told = []
        for number, text in enumerate(listing.texts):
            found = {}
            for telling, links, price in listing.told_behind(number, 0):
                pieces = sum([part != NEW for part in telling])
                lines = found.setdefault((pieces, price - pieces * piece), [set() for _ in text])
                for line, link in zip(lines, links):
                    line.add(link)
            self.told.append(found)
        self.steps = [self.steps_of(number) for number in range(len(self.told))]

    def price(self, number, piece):
        return min([pieces * piece + rest for pieces, rest in self.told[number]])

    def cheapest(self, number, piece):
        """The numbers of pieces, and the prices of the rest, of cheapest tellings at this price of a piece."""
        least = self.price(number, piece)
        return [(pieces, rest) for pieces, rest in self.told[number] if pieces * piece + rest == least]

    def steps_of(self, number):
        """The prices of a piece at which cheapest tellings of a version have different numbers of pieces."""
        meets = {(less - rest) / (pieces - fewer) for pieces, rest in self.told[number]
                 for fewer, less in self.told[number] if fewer < pieces}
        return sorted([piece for piece in meets if piece > 0
                       and len({pieces for pieces, _ in self.cheapest(number, piece)}) > 1])

    def all_steps(self):
        return sorted({step for found in self.steps for step in found})

    def links(self, piece):
        """For each place, the set of the links that its line has in cheapest tellings at this price of a piece."""
        found = {}
        for number, told in enumerate(self.told):
            lines = zip(*[told[cost] for cost in self.cheapest(number, piece)])
            found.update({(number, index): set().union(*links) for index, links in enumerate(lines)})
        return found

    def origins(self, piece):
        """For each place, the set of the origins of its line, link by link, at this price of a piece."""
        found = {}
        for place, links in self.links(piece).items():
            found[place] = set().union(*[{place} if link is None else found[link] for link in links])
        return found


def prices_around(steps):
    """Prices below, between and above these, the steps themselves, and some close by."""
    near = Fraction(1, 10 ** 30)
    ends = [Fraction(0), *steps, (steps or [Fraction(1)])[-1] + 2]
    found = {(low + high) / 2 for low, high in zip(ends, ends[1:])} | {near, Fraction(10 ** 30)} | set(steps)
    return sorted(found | {step - near for step in steps} | {step + near for step in steps})
