"""Recorded tellings of a history (points 19 and 3 (f), and records.py)."""

import itertools
import random

from lineorigins import records as module
from lineorigins.cheapest import cheapest_tellings
from lineorigins.deeds import telling_of
from lineorigins.errors import InvalidNumber, InvalidPrices, InvalidTelling
from lineorigins.histories import History, Version
from lineorigins.layouts import Layout
from lineorigins.origins import chains, origins, told_by
from lineorigins.prices import Prices
from lineorigins.ranges import Ranges
from lineorigins.ratios import Ratio
from lineorigins.records import excess, is_record, recorded_chain, recorded_origin, right_prices
from lineorigins.steps import origin_ranges
from lineorigins.studies import Study
from tests.examples import run_example
from tests.listing import NEW, Spread, fraction, prices_around, take
from tests.samples import FOLDED, HALF, THIRD, long_studies, samples, the_history, the_study
from tests.support import AGREEABLE, NO_LISTINGS, RUDE, Case, digits, no_indices

EXAMPLE = """
>>> from lineorigins.histories import History, Version
>>> from lineorigins.ratios import Ratio
>>> from lineorigins.prices import Prices
>>> from lineorigins.studies import Study
>>> from lineorigins.records import excess, recorded_origin, right_prices
>>> history = History([Version(['a', 'b']), Version(['b', 'a'], parents=[0], author='ann'), Version(['a'], parents=[1])])
>>> study = Study(history, prices=Prices(piece=Ratio(1, 2)))
>>> record = ((('new',), ('new',)), (('take', 0, 1, 1), ('take', 0, 0, 1)), (('take', 1, 1, 1),))
>>> found = right_prices(study, record)
>>> [excess(study, record)[1].text, 1 in found[0], 2 in found[0], found[1], recorded_origin(study, record, 2, 0)]
['0', True, False, None, (0, 0)]
"""
RECORD = ((NEW, NEW), (take(0, 1, 1), take(0, 0, 1)), (take(1, 1, 1),))
NO_PRICES = [True, False, 0, 1, "", "piece 1 far 0 alike 0 least 1", (), [], Prices, Layout(), RUDE, AGREEABLE]
# Values that are no record of the history and the prices of the document's examples.
NO_RECORDS = [
    *NO_LISTINGS, [], (), list(RECORD), RECORD[:2], (*RECORD, ()), (*RECORD, RECORD[2]), RECORD[::-1], RECORD[0],
    (list(RECORD[0]), *RECORD[1:]), (None, *RECORD[1:]), (RUDE, *RECORD[1:]), (AGREEABLE,) * 3, (RECORD[0],) * 3,
    ((NEW,), *RECORD[1:]), ((NEW,) * 3, *RECORD[1:]), (*RECORD[:2], (take(1, 0, 1),)), (*RECORD[:2], (take(2, 0, 1),)),
    (*RECORD[:2], (take(True, 1, 1),)), (*RECORD[:2], (take(1, True, 1),)), (*RECORD[:2], (take(1, 1, True),)),
    (*RECORD[:2], (take(1, 1, 2),)), (*RECORD[:2], ("new",)), (*RECORD[:2], (["new"],)), (*RECORD[:2], ((RUDE,),))]


def some_records():
    """Studies of small histories with records of them, and all tellings; most are not the cheapest."""
    source = random.Random(3)
    found = []
    for study, listing in samples()[1::4]:
        told = [[telling for telling, _, _ in listing.told_behind(number, 0)] for number in range(len(listing.texts))]
        for _ in range(4):
            record = tuple([source.choice(source.choice([all_, cheapest])) for all_, cheapest in zip(told, listing.tellings)])
            found.append((study, listing, record))
    return found


def links_in(listing, number, telling):
    """The links of a telling, from the listing of all."""
    return [links for other, links, _ in listing.told_behind(number, 0) if other == telling][0]


def price_in(listing, number, telling):
    return [price for other, _, price in listing.told_behind(number, 0) if other == telling][0]


class TestListed(Case):
    """The answers beside all tellings."""

    def test_records(self):
        for study, listing, record in some_records():
            self.assertIs(is_record(study.history, record, prices=study.prices), True)
            self.assertIs(is_record(study.history, record[:-1], prices=study.prices), False)
            for number, telling in enumerate(record):
                for wrong in [telling + (NEW,), telling[:-1], list(telling)]:
                    changed = record[:number] + (wrong,) + record[number + 1:]
                    self.assertIs(is_record(study.history, changed, prices=study.prices),
                                  wrong == telling and isinstance(wrong, tuple))

    def test_excess(self):
        seen = set()
        for study, listing, record in some_records():
            found = excess(study, record)
            self.assertEqual({type(found)} | {type(item) for item in found}, {tuple, Ratio})
            wanted = [price_in(listing, number, telling) - listing.price[number] for number, telling in enumerate(record)]
            self.assertEqual([fraction(item) for item in found], wanted)
            self.assertEqual([item == 0 for item in found],
                             [telling in listing.tellings[number] for number, telling in enumerate(record)])
            seen.add(tuple([item == 0 for item in found][:2]))
        self.assertLessEqual({(True, True), (True, False)}, seen)

    def test_chains(self):
        for study, listing, record in some_records():
            links = [links_in(listing, number, telling) for number, telling in enumerate(record)]
            for place in listing.places:
                chain = listing.chain(links, place)
                self.assert_same(recorded_chain(study, record, *place), chain)
                self.assert_same(recorded_origin(study, record, *place), chain[-1])

    def test_right_prices(self):
        left, points = [0, 0, 0], 0
        for study, listing, record in some_records():
            spread = Spread(listing)
            prices = prices_around(spread.all_steps())
            piece = fraction(study.prices.piece)
            flags = [True] * len(prices)
            wanted = None
            for number, telling in enumerate(record):
                pieces = sum([part != NEW for part in telling])
                rest = price_in(listing, number, telling) - piece * pieces
                flags = [flag and pieces * price + rest == spread.price(number, price) for flag, price in zip(flags, prices)]
                if not any(flags) and wanted is None:
                    wanted = number
            ranges, number = found = right_prices(study, record)
            self.assertEqual([type(found), type(ranges)], [tuple, Ranges])
            self.assertEqual(number, wanted)
            self.assertEqual([Ratio(price.numerator, price.denominator) in ranges for price in prices], flags)
            self.assertEqual(bool(ranges), wanted is None)
            # What a telling costs lies on a line above a concave curve: where they meet is one range at most.
            self.assertLessEqual(len(ranges), 1)
            left[0 if wanted is None else 1 if wanted < 2 else 2] += 1
            points += any([low == high for low, high in ranges])
        self.assertGreater(min(left), 10)
        self.assertGreater(points, 5)

    def test_recorded_origins_are_possible_at_right_prices(self):
        seen = 0
        for study, listing, record in some_records():
            ranges, _ = right_prices(study, record)
            for low, high in ranges:
                inside = low + 1 if high is None else Ratio.middle(low, high)
                for price in [inside] + [end for end in (low, high) if end]:
                    there = Study(study.history, prices=study.prices.with_piece(price))
                    self.assertEqual({item.text for item in excess(there, record)}, {"0"})
                    for place in listing.places:
                        origin = recorded_origin(study, record, *place)
                        self.assertIn(origin, origins(there, *place))
                        self.assertIn(recorded_chain(study, record, *place), list(chains(there, *place)))
                        self.assertIn(price, origin_ranges(study, *place, origin))
                        seen += 1
        self.assertGreater(seen, 200)

    def test_every_cheapest_telling(self):
        for study, listing in samples()[1::8]:
            for record in itertools.islice(itertools.product(*listing.tellings), 20):
                self.assertEqual({item.text for item in excess(study, record)} | {"0"}, {"0"})
                ranges, number = right_prices(study, record)
                self.assertIn(study.prices.piece, ranges)
                self.assertIsNone(number)


class TestEdges(Case):

    def test_example(self):
        self.assertEqual(*run_example(EXAMPLE))

    def test_no_versions(self):
        study = Study(History())
        self.assertIs(is_record(History(), ()), True)
        self.assertIs(is_record(History(), []), False)
        self.assertIs(is_record(History(), ((),)), False)
        self.assert_same(excess(study, ()), ())
        self.assertEqual(right_prices(study, ()), (Ranges.whole(), None))

    def test_prices_of_the_record(self):
        """Whether a value is a record depends on the least length and the layout, and on no price."""
        history = History([Version(["a", "b"]), Version(["A", "b"], parents=[0])])
        record = ((NEW, NEW), (take(0, 0, 2),))
        for prices, wanted in [(None, False), (Prices(), False), (Prices(layout=FOLDED), True),
                               (Prices(layout=FOLDED, least=2), True), (Prices(layout=FOLDED, least=3), False),
                               (Prices(layout=FOLDED, piece=100, far=100, alike=100), True)]:
            self.assertIs(is_record(history, record, prices=prices), wanted)
            study = Study(history, prices=prices)
            for ask in [excess, right_prices]:
                if wanted:
                    ask(study, record)
                else:
                    self.assert_refused(InvalidTelling, record, ask, study, record)

    def test_ranges_of_right_prices(self):
        """A range, a point, all prices, and none."""
        history = History([Version(["a", "b"]), Version(["b", "a"], parents=[0]), Version(["a", "b"], parents=[0])])
        study = Study(history)
        new = (NEW, NEW)
        both = (take(0, 1, 1), take(0, 0, 1))
        one = (NEW, take(0, 0, 1))
        long = (take(0, 0, 2),)
        for record, parts, number in [
                ((new, both, long), ((0, 1),), None), ((new, new, new), ((2, None),), None), ((new, new, long), ((1, 2),), None),
                ((new, one, long), ((1, 1),), None), ((new, both, new), (), 2), ((new, one, new), (), 2),
                ((new, both, (take(0, 0, 1), take(0, 1, 1))), (), 2), ((new, new, (take(0, 0, 1), NEW)), (), 2)]:
            ranges, found = right_prices(study, record)
            self.assertEqual((ranges, found), (Ranges(parts), number))
            self.assertEqual({type(end) for part in ranges for end in part} | {Ratio, type(None)}, {Ratio, type(None)})
        history = History([Version(["a"]), Version(["b"]), Version(["c"], parents=[0, 1])])
        self.assertEqual(right_prices(Study(history), ((NEW,),) * 3), (Ranges.whole(), None))

    def test_the_first_version_that_leaves_no_price(self):
        """Each telling alone is right at some price; the number is that of the version after which none is left."""
        versions = [Version(["a", "b"])] + [Version(["a", "b"][:size], parents=[0]) for size in [2, 1, 2, 1]]
        study = Study(History(versions))
        new, taken, half = (NEW, NEW), (take(0, 0, 2),), (take(0, 0, 1),)
        self.assertEqual(right_prices(study, (new, taken, half, taken, half)), (Ranges(((0, 1),)), None))
        self.assertEqual(right_prices(study, (new, taken, (NEW,), taken, (NEW,))), (Ranges(((1, 2),)), None))
        self.assertEqual(right_prices(study, (new, taken, (NEW,), taken, half)), (Ranges(((1, 1),)), None))
        self.assertEqual(right_prices(study, (new, new, (NEW,), taken, (NEW,))), (Ranges(((2, 2),)), None))
        self.assertEqual(right_prices(study, (new, new, half, taken, (NEW,))), (Ranges(), 2))
        self.assertEqual(right_prices(study, (new, taken, half, new, (NEW,))), (Ranges(), 3))
        self.assertEqual(right_prices(study, (new, taken, (NEW,), new, half)), (Ranges(), 4))
        self.assertEqual(right_prices(study, (new, (take(0, 0, 1), NEW), (NEW,), new, half)), (Ranges(), 1))

    def test_far_and_alike(self):
        history = History([Version(["a", "b"]), Version(["x"], parents=[0]), Version(["a", "B"], parents=[1])])
        study = Study(history, prices=Prices(piece=5, far=HALF, alike=THIRD, layout=FOLDED))
        record = ((NEW, NEW), (NEW,), (take(0, 0, 2),))
        self.assertEqual(right_prices(study, record), (Ranges(((0, Ratio(7, 6)),)), None))
        self.assertEqual([item.text for item in excess(study, record)], ["0", "0", "23/6"])

    def test_from_deeds_and_from_chains(self):
        study = the_study()
        told = telling_of(study.history, 1, [("bring", 0, 0, 2, 0), ("move", 0, 1, 1)], prices=study.prices)
        record = (RECORD[0], told, RECORD[2])
        self.assertIs(is_record(study.history, record, prices=study.prices), True)
        self.assert_same(recorded_chain(study, record, 2, 0), ((2, 0), (1, 1), (0, 0)))
        for chain in chains(study, 2, 0):
            self.assert_same(recorded_chain(study, told_by(study, chain), 2, 0), chain)

    def test_dearer_records(self):
        study = the_study()
        record = ((NEW, NEW), (NEW, take(0, 0, 1)), (NEW,))
        self.assertEqual([item.text for item in excess(study, record)], ["0", "1/2", "1/2"])
        self.assert_same(recorded_origin(study, record, 1, 0), (1, 0))
        self.assert_same(recorded_chain(study, record, 1, 1), ((1, 1), (0, 0)))
        self.assertEqual(right_prices(study, record), (Ranges(((1, 1),)), None))

    def test_long(self):
        for study in long_studies():
            record = tuple([next(cheapest_tellings(study, number)) for number in range(10)])
            self.assertEqual({item.text for item in excess(study, record)}, {"0"})
            ranges, number = right_prices(study, record)
            self.assertIn(study.prices.piece, ranges)
            self.assertIsNone(number)
            for index in range(12):
                self.assertIn(recorded_origin(study, record, 9, index), origins(study, 9, index))

    def test_by_name(self):
        study = the_study()
        self.assertIs(is_record(value=RECORD, history=study.history, prices=study.prices), True)
        self.assertEqual(excess(record=RECORD, study=study), (0, 0, 0))
        self.assertEqual(recorded_origin(index=0, number=2, record=RECORD, study=study), (0, 0))
        self.assertEqual(recorded_chain(index=0, number=2, record=RECORD, study=study), ((2, 0), (1, 1), (0, 0)))
        self.assertEqual(right_prices(record=RECORD, study=study), (Ranges(((0, 1),)), None))
        with self.assertRaises(TypeError):
            is_record(study.history, RECORD, study.prices)
        for ask in [is_record, excess, recorded_origin, recorded_chain, right_prices]:
            self.assertEqual(ask.__module__, module.__name__)


class TestWrongValues(Case):

    def test_no_record(self):
        study = the_study()
        for value in NO_RECORDS:
            self.assertIs(is_record(study.history, value), False)
            self.assertIs(is_record(study.history, value, prices=study.prices), False)
            for ask in [excess, right_prices]:
                self.assert_refused(InvalidTelling, value, ask, study, value)
            for ask in [recorded_origin, recorded_chain]:
                self.assert_refused(InvalidTelling, value, ask, study, value, 0, 0)

    def test_record_comes_before_number_and_index(self):
        study = the_study()
        for ask in [recorded_origin, recorded_chain]:
            for number, index in [(3, 0), (0, 2), (None, None), (RUDE, RUDE)]:
                for value in [None, RECORD[:2], RUDE]:
                    self.assert_refused(InvalidTelling, value, ask, study, value, number, index)

    def test_no_version_and_no_line(self):
        study = the_study()
        for ask in [recorded_origin, recorded_chain]:
            for value in no_indices(3):
                self.assert_refused(InvalidNumber, value, ask, study, RECORD, value, 0)
                self.assert_refused(InvalidNumber, value, ask, study, RECORD, value, "no")
            for number, size in [(0, 2), (1, 2), (2, 1)]:
                for value in no_indices(size):
                    self.assert_refused(InvalidNumber, value, ask, study, RECORD, number, value)
            number, index = digits(30), digits(31)
            self.assert_refused(InvalidNumber, number, ask, study, RECORD, number, index)

    def test_no_prices(self):
        for value in NO_PRICES:
            for record in [RECORD, None, RUDE, ()]:
                self.assert_refused(InvalidPrices, value, is_record, the_history(), record, prices=value)
