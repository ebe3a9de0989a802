"""Cheapest tellings (points 10 and 3 (a), and cheapest.py)."""

import itertools

from lineorigins import cheapest
from lineorigins.cheapest import (
    ahead, behind, cheapest_price, cheapest_tellings, count_cheapest, extent, possible_links, telling_with)
from lineorigins.errors import InvalidNumber
from lineorigins.histories import History, Version
from lineorigins.prices import Prices
from lineorigins.ratios import Ratio
from lineorigins.studies import Study
from lineorigins.tellings import links_of, price_of
from tests.examples import run_example
from tests.listing import NEW, fraction, in_order, take
from tests.samples import FOLDED, HALF, long_studies, samples, the_history
from tests.support import Case, no_indices

EXAMPLE = """
>>> from lineorigins.histories import History, Version
>>> from lineorigins.studies import Study
>>> from lineorigins.cheapest import cheapest_price, count_cheapest, extent, possible_links
>>> history = History([Version(['a', 'b']), Version(['b', 'a'], parents=[0], author='ann'), Version(['a'], parents=[1])])
>>> study = Study(history)
>>> [cheapest_price(study, 1).text, possible_links(study, 1, 0), count_cheapest(study, 1), extent(study, 1)]
['2', (None, (0, 1)), 4, (0, 2, 0, 2)]
"""
OF_VERSIONS = [cheapest_price, ahead, behind, count_cheapest, extent]


class TestListed(Case):
    """The answers beside all tellings of small histories."""

    def test_prices(self):
        for study, listing in samples():
            for number, text in enumerate(listing.texts):
                found = cheapest_price(study, number)
                self.assertIs(type(found), Ratio)
                self.assertEqual(fraction(found), listing.price[number])
                points = range(len(text) + 1)
                self.assert_prices(ahead(study, number), [listing.least_price(number, 0, point) for point in points])
                self.assert_prices(behind(study, number),
                                   [listing.least_price(number, point, len(text)) for point in points])

    def assert_prices(self, found, wanted):
        self.assertIs(type(found), tuple)
        self.assertEqual({type(price) for price in found}, {Ratio})
        self.assertEqual([fraction(price) for price in found], wanted)

    def test_tellings(self):
        for study, listing in samples():
            for number, tellings in enumerate(listing.tellings):
                self.assert_same(list(cheapest_tellings(study, number)), tellings)
                self.assert_same(count_cheapest(study, number), len(tellings))

    def test_links(self):
        for study, listing in samples():
            for number, index in listing.places:
                wanted = in_order([links[index] for links in listing.links[number]])
                self.assert_same(possible_links(study, number, index), wanted)

    def test_tellings_with_each_link(self):
        for study, listing in samples():
            for number, index in listing.places:
                for link in [None, *itertools.product(range(5), range(5))]:
                    wanted = [telling for telling, links in zip(listing.tellings[number], listing.links[number])
                              if links[index] == link]
                    self.assert_same(telling_with(study, number, index, link), wanted[0] if wanted else None)

    def test_extents(self):
        for study, listing in samples():
            for number, tellings in enumerate(listing.tellings):
                new = [telling.count(NEW) for telling in tellings]
                pieces = [len(telling) - telling.count(NEW) for telling in tellings]
                self.assert_same(extent(study, number), (min(new), max(new), min(pieces), max(pieces)))

    def test_the_samples_are_of_many_kinds(self):
        found = set()
        for study, listing in samples():
            for number, tellings in enumerate(listing.tellings):
                if len(tellings) > 1:
                    parts = {part for telling in tellings for part in telling}
                    sources = {part[1] for part in parts if part != NEW}
                    found.add((study.prices.least, study.prices.layout == FOLDED, NEW in parts, len(sources) > 1,
                               bool(sources - set(listing.parents[number]))))
        self.assertGreater(len(found), 15)


class TestEdges(Case):

    def test_example(self):
        self.assertEqual(*run_example(EXAMPLE))

    def test_no_lines(self):
        study = Study(History([Version([]), Version([], parents=[0]), Version(["a"]), Version([], parents=[2])]))
        for number in [0, 1, 3]:
            self.assert_same(fraction(cheapest_price(study, number)), fraction(Ratio(0)))
            self.assertEqual([ahead(study, number), behind(study, number)], [(0,), (0,)])
            self.assert_same(count_cheapest(study, number), 1)
            self.assert_same(list(cheapest_tellings(study, number)), [()])
            self.assert_same(extent(study, number), (0, 0, 0, 0))

    def test_no_possible_piece(self):
        for lines, prices in [(["x", "y"], Prices(piece=HALF)), (["a", "b"], Prices(least=3)), (["a"], Prices(piece=2)),
                              (["A"], Prices(piece=HALF))]:
            study = Study(History([Version(["a", "b", "c"]), Version(lines, parents=[0])]), prices=prices)
            self.assert_same(list(cheapest_tellings(study, 1)), [(NEW,) * len(lines)])
            self.assert_same(possible_links(study, 1, 0), (None,))
            self.assert_same(extent(study, 1), (len(lines), len(lines), 0, 0))
            for link in [(0, 0), (0, 2), (0, 3), (1, 0), (2, 0), (9, 9), (10 ** 199, 10 ** 199)]:
                self.assertIsNone(telling_with(study, 1, 0, link))

    def test_pieces_end_before_each_point(self):
        study = Study(History([Version(["a", "b", "c"]), Version(["a", "b", "c"], parents=[0])]),
                      prices=Prices(piece=2, least=2))
        self.assertEqual(ahead(study, 1), (0, 1, 2, 2))
        self.assertEqual(behind(study, 1), (2, 2, 1, 0))
        self.assert_same(list(cheapest_tellings(study, 1)), [(take(0, 0, 3),)])

    def test_every_order_of_tied_parts(self):
        history = History([Version(["a"]), Version(["a"], parents=[0]), Version(["a", "a"], parents=[0, 1])])
        parts = [NEW, take(0, 0, 1), take(1, 0, 1)]
        self.assert_same(list(cheapest_tellings(Study(history), 2)), list(itertools.product(parts, repeat=2)))

    def test_alike_lines(self):
        history = History([Version(["a"]), Version([" A"], parents=[0]), Version(["a"], parents=[1])])
        for far, alike, links in [(0, 0, ((0, 0), (1, 0))), (0, 1, ((0, 0),)), (1, 0, ((1, 0),)),
                                  (HALF, HALF, (None, (0, 0), (1, 0)))]:
            prices = Prices(piece=HALF, far=far, alike=alike, layout=FOLDED)
            self.assert_same(possible_links(Study(history, prices=prices), 2, 0), links)

    def test_large_prices(self):
        tiny, big = Ratio(1, 10 ** 199 + 1), Ratio(10 ** 199 + 7, 10 ** 199 + 9)
        history = History([Version(["a"]), Version(["A"], parents=[0]), Version(["a", "b"], parents=[1])])
        prices = Prices(piece=tiny, far=big, alike=tiny, layout=FOLDED)
        study = Study(history, prices=prices)
        self.assertEqual(cheapest_price(study, 2), tiny + tiny + 1)
        self.assertEqual(ahead(study, 2), (0, tiny + tiny, tiny + tiny + 1))
        self.assertEqual(possible_links(study, 2, 0), ((1, 0),))

    def test_many_tellings(self):
        for study in long_studies():
            for number in range(10):
                self.check_long(study, number)
        studies = long_studies()
        self.assertEqual([count_cheapest(studies[0], number) for number in range(10)], [1, 1, 2, 3, 4, 5, 6, 7, 8, 9])
        self.assertEqual([count_cheapest(studies[-1], number) for number in range(10)],
                         [(6 * number + 1) ** 6 for number in range(10)])

    def check_long(self, study, number):
        size = len(study.history.version(number))
        count = count_cheapest(study, number)
        first = list(itertools.islice(cheapest_tellings(study, number), 20))
        self.assertEqual(len(first), min(count, 20))
        self.assertEqual(first, sorted(first))
        price = cheapest_price(study, number)
        self.assertEqual([ahead(study, number)[-1], behind(study, number)[0]], [price, price])
        for telling in first:
            self.assertEqual(price_of(study.history, number, telling, prices=study.prices), price)
        for index in range(size):
            for link in possible_links(study, number, index):
                telling = telling_with(study, number, index, link)
                self.assertEqual(links_of(study.history, number, telling, prices=study.prices)[index], link)
                self.assertEqual(price_of(study.history, number, telling, prices=study.prices), price)
        least_new, most_new, least_pieces, most_pieces = extent(study, number)
        for telling in first:
            self.assertTrue(least_new <= telling.count(NEW) <= most_new)
            self.assertTrue(least_pieces <= len(telling) - telling.count(NEW) <= most_pieces)

    def test_a_generator_of_its_own_for_each_call(self):
        study = Study(the_history())
        one, other = cheapest_tellings(study, 1), cheapest_tellings(study, 1)
        first = next(one)
        self.assertEqual([first, *one], list(other))

    def test_by_name(self):
        study = Study(the_history())
        for ask in OF_VERSIONS:
            self.assertEqual(ask(number=1, study=study), ask(study, 1))
        self.assertEqual(list(cheapest_tellings(number=1, study=study)), list(cheapest_tellings(study, 1)))
        self.assertEqual(possible_links(index=0, number=1, study=study), (None, (0, 1)))
        self.assertEqual(telling_with(link=(0, 1), index=0, number=1, study=study), (take(0, 1, 1), NEW))
        for ask in [*OF_VERSIONS, cheapest_tellings, possible_links, telling_with]:
            self.assertEqual(ask.__module__, cheapest.__name__)


class TestWrongValues(Case):

    def test_no_version(self):
        for history in [the_history(), History()]:
            study = Study(history)
            for value in no_indices(len(history)):
                for ask in OF_VERSIONS:
                    self.assert_refused(InvalidNumber, value, ask, study, value)
                self.assert_refused_late(InvalidNumber, value, cheapest_tellings, study, value)
                self.assert_refused(InvalidNumber, value, possible_links, study, value, 0)
                self.assert_refused(InvalidNumber, value, telling_with, study, value, 0, None)

    def test_no_line(self):
        study = Study(History([Version([]), Version(["a", "b"], parents=[0])]))
        for number, size in [(0, 0), (1, 2)]:
            for value in no_indices(size):
                self.assert_refused(InvalidNumber, value, possible_links, study, number, value)
                self.assert_refused(InvalidNumber, value, telling_with, study, number, value, None)
                self.assert_refused(InvalidNumber, value, telling_with, study, number, value, (0, 0))

    def test_number_comes_before_index(self):
        study = Study(the_history())
        for value in no_indices(3):
            self.assert_refused(InvalidNumber, value, possible_links, study, value, -5)
            self.assert_refused(InvalidNumber, value, telling_with, study, value, "no", None)
