"""The answers for all prices of a piece (points 17 and 3 (e), and steps.py)."""

import functools
from fractions import Fraction

from lineorigins import steps as module
from lineorigins.cheapest import cheapest_price, possible_links
from lineorigins.errors import InvalidNumber
from lineorigins.histories import History, Version
from lineorigins.origins import origins
from lineorigins.prices import Prices
from lineorigins.ranges import Ranges
from lineorigins.ratios import Ratio
from lineorigins.steps import bends, link_ranges, origin_ranges, origin_table, steps
from lineorigins.studies import Study
from tests.examples import run_example
from tests.listing import Listing, Spread, fraction, prices_around
from tests.samples import FOLDED, HALF, THIRD, long_history, long_studies, samples, the_history, the_study
from tests.support import Case, digits, no_indices

EXAMPLE = """
>>> from lineorigins.histories import History, Version
>>> from lineorigins.ratios import Ratio
>>> from lineorigins.prices import Prices
>>> from lineorigins.studies import Study
>>> from lineorigins.steps import bends, origin_ranges, steps
>>> history = History([Version(['a', 'b']), Version(['b', 'a'], parents=[0], author='ann'), Version(['a'], parents=[1])])
>>> study = Study(history, prices=Prices(piece=Ratio(1, 2)))
>>> ranges = origin_ranges(study, 1, 0, (1, 0))
>>> [steps(study)[0].text, len(bends(study, 1)), bends(study, 1)[0][2], 1 in ranges, Ratio(1, 2) in ranges]
['1', 2, 2, True, False]
"""


# Histories in a row, in which links and origins are possible in several ranges of prices, or at single prices.
APART = [
    (["aabb", "bcbbac", "baba"], Prices(alike=1)),
    (["BabBA", "baabb", "bbAab"], Prices(alike=1, layout=FOLDED)),
    (["XbbbB", "bXacXc", "Xabb"], Prices(alike=THIRD, layout=FOLDED)),
    (["bAa", "aaaAc"], Prices(far=HALF, alike=THIRD, layout=FOLDED)),
    (["BBA", "bBbAA", "bBA"], Prices(far=1, alike=Ratio(3, 2), layout=FOLDED)),
    (["bbbab", "ababaa", "aaaba"], Prices(far=HALF))]
RANGES = [
    (), ("from 0",), ("on",), ("at",), ("in",), ("from 0", "at"), ("at", "on"), ("in", "in"), ("from 0", "in"),
    ("from 0", "on"), ("at", "at")]


@functools.cache
def spreads():
    """Studies of small histories, each with all its tellings, and the prices of a piece to ask about."""
    asked = [(study.history, study.prices) for study, _ in samples()[1::4]]
    for texts, prices in APART:
        versions = [Version(list(text), parents=[at - 1] if at else []) for at, text in enumerate(texts)]
        asked.append((History(versions), prices))
    found = []
    for history, prices in asked:
        spread = Spread(Listing(history, prices))
        found.append((Study(history, prices=prices), spread, prices_around(spread.all_steps())))
    return found


def ratio(number):
    return Ratio(number.numerator, number.denominator)


def shape(ranges):
    """How each of these ranges begins and ends."""
    return tuple(["at" if low == high else "from 0" if low == 0 else "on" if high is None else "in"
                  for low, high in ranges.parts])


def assert_bends(case, found):
    """What holds for the bends of every version."""
    case.assertIs(type(found), tuple)
    case.assertEqual([found[0][0], found[-1][1], found[-1][2]], [0, None, 0])
    for bend in found:
        case.assertEqual([type(bend), len(bend), type(bend[0]), type(bend[2]), type(bend[3])],
                         [tuple, 4, Ratio, int, Ratio])
        if bend[1] is not None:
            case.assertIs(type(bend[1]), Ratio)
            case.assertLess(bend[0], bend[1])
    for one, other in zip(found, found[1:]):
        case.assertEqual(one[1], other[0])
        case.assertGreater(one[2], other[2])
        case.assertEqual(one[1] * one[2] + one[3], one[1] * other[2] + other[3])


def ratio(number):
    return Ratio(number.numerator, number.denominator)


class TestListed(Case):
    """The answers beside all tellings, at many prices of a piece."""

    def test_bends(self):
        seen = set()
        for study, spread, prices in spreads():
            for number in range(len(study.history)):
                found = bends(study, number)
                assert_bends(self, found)
                self.assertEqual([fraction(low) for low, _, _, _ in found[1:]], spread.steps[number])
                for price in prices:
                    for low, high, pieces, rest in found:
                        if fraction(low) <= price and (high is None or price <= fraction(high)):
                            self.assertEqual(pieces * price + fraction(rest), spread.price(number, price))
                seen.add(tuple([pieces for _, _, pieces, _ in found]))
        self.assertLessEqual({(0,), (1, 0), (2, 0), (2, 1, 0), (3, 0), (3, 1, 0)}, seen)

    def test_steps(self):
        several = 0
        for study, spread, _ in spreads():
            self.assert_same(list(steps(study)), [ratio(step) for step in spread.all_steps()])
            self.assertIs(type(steps(study)), tuple)
            several += len(steps(study)) > 2
        self.assertGreater(several, 5)

    def test_link_ranges(self):
        seen = set()
        for study, spread, prices in spreads():
            wanted = [spread.links(price) for price in prices]
            for place in spread.listing.places:
                links = [None, (0, 7), (9, 0), (digits(30), digits(30)), place, *spread.listing.places]
                for link in links:
                    found = link_ranges(study, *place, link)
                    self.assert_ranges(found, spread, prices, [link in at[place] for at in wanted])
                    seen.add(shape(found))
        self.assertLessEqual(set(RANGES[:5]), seen)
        self.assertGreater(len(seen), 8)

    def test_origin_ranges(self):
        seen = set()
        for study, spread, prices in spreads():
            wanted = [spread.origins(price) for price in prices]
            for place in spread.listing.places:
                for origin in [(0, 7), (9, 0), (digits(30), digits(30)), *spread.listing.places]:
                    found = origin_ranges(study, *place, origin)
                    self.assert_ranges(found, spread, prices, [origin in at[place] for at in wanted])
                    seen.add(shape(found))
        self.assertLessEqual(set(RANGES), seen)

    def assert_ranges(self, found, spread, prices, flags):
        """Just the flagged prices are in the ranges, which begin and end at steps only."""
        self.assertIs(type(found), Ranges)
        self.assertEqual([ratio(price) in found for price in prices], flags)
        ends = {fraction(end) for part in found for end in part if end is not None}
        self.assertLessEqual(ends, {0, *spread.all_steps()})

    def test_origin_table(self):
        for study, spread, _ in spreads():
            found = spread.all_steps()
            cells = [cell for low, high in zip([Fraction(0), *found], [*found, None])
                     for cell in [(low, high), (high, high)]][:-1]
            wanted = [spread.origins(low if low == high else low + 1 if high is None else (low + high) / 2)
                      for low, high in cells]
            for place in spread.listing.places:
                found = origin_table(study, *place)
                self.assertIs(type(found), tuple)
                self.assertEqual([(fraction(low), high and fraction(high)) for low, high, _ in found], cells)
                self.assert_same([told for _, _, told in found], [tuple(sorted(at[place])) for at in wanted])
                self.assertEqual({type(low) for low, _, _ in found}, {Ratio})
                self.assertLessEqual({type(high) for _, high, _ in found}, {Ratio, type(None)})

    def test_as_at_each_price(self):
        """The answers of studies with these prices of a piece."""
        for study, spread, prices in spreads()[::6]:
            for price in [ratio(price) for price in prices]:
                there = Study(study.history, prices=study.prices.with_piece(price))
                for number in range(len(study.history)):
                    told = [price * pieces + rest for low, high, pieces, rest in bends(study, number)
                            if low <= price and (high is None or price <= high)]
                    self.assertEqual(set([item.text for item in told]), {cheapest_price(there, number).text})
                for place in spread.listing.places:
                    for link in [None, *spread.listing.places]:
                        self.assertEqual(price in link_ranges(study, *place, link), link in possible_links(there, *place))
                    for low, high, told in origin_table(study, *place):
                        if low == high == price or low < price and (high is None or price < high):
                            self.assertEqual(told, origins(there, *place))

    def test_the_price_of_the_study_does_not_count(self):
        for study, spread, prices in spreads()[::6]:
            for price in [ratio(prices[0]), ratio(prices[-1]), Ratio(7, 5)]:
                there = Study(study.history, prices=study.prices.with_piece(price))
                self.assertEqual(steps(there), steps(study))
                for number in range(len(study.history)):
                    self.assertEqual(bends(there, number), bends(study, number))
                for place in spread.listing.places:
                    self.assertEqual(origin_table(there, *place), origin_table(study, *place))


class TestEdges(Case):

    def test_example(self):
        self.assertEqual(*run_example(EXAMPLE))

    def test_no_piece_to_take(self):
        study = Study(History([Version(["a", "b"]), Version(["c"], parents=[0]), Version(["a"]), Version([], parents=[1])]))
        self.assert_same([bends(study, number) for number in range(4)],
                         [((Ratio(0), None, 0, Ratio(size)),) for size in [2, 1, 1, 0]])
        self.assert_same(steps(study), ())
        self.assert_same(origin_table(study, 1, 0), ((Ratio(0), None, ((1, 0),)),))
        self.assertEqual(link_ranges(study, 1, 0, None), Ranges.whole())
        self.assertEqual(link_ranges(study, 1, 0, (0, 0)), Ranges())
        self.assertEqual(origin_ranges(study, 1, 0, (1, 0)), Ranges.whole())

    def test_no_versions(self):
        self.assert_same(steps(Study(History())), ())

    def test_pieces_that_would_be_shorter_than_the_least(self):
        history = History([Version(["a", "b"]), Version(["b", "a"], parents=[0]), Version(["a", "b"], parents=[0])])
        study = Study(history, prices=Prices(least=2))
        self.assert_same(bends(study, 1), ((Ratio(0), None, 0, Ratio(2)),))
        self.assert_same(bends(study, 2), ((Ratio(0), Ratio(2), 1, Ratio(0)), (Ratio(2), None, 0, Ratio(2))))
        self.assert_same(steps(study), (Ratio(2),))
        study = Study(history, prices=Prices(least=3))
        self.assert_same(steps(study), ())

    def test_pieces_of_several_lengths(self):
        """Each piece is worth as many new lines as it has; three numbers of pieces meet at one price, or do not."""
        history = History([Version(list("abcdef")), Version(list("abcxdexf"), parents=[0])])
        study = Study(history)
        self.assert_same(bends(study, 1), (
            (Ratio(0), Ratio(1), 3, Ratio(2)), (Ratio(1), Ratio(2), 2, Ratio(3)), (Ratio(2), Ratio(3), 1, Ratio(5)),
            (Ratio(3), None, 0, Ratio(8))))
        self.assert_same(steps(study), (Ratio(1), Ratio(2), Ratio(3)))
        self.assertEqual(link_ranges(study, 1, 0, (0, 0)).parts, ((0, 3),))
        self.assertEqual(link_ranges(study, 1, 4, (0, 3)).parts, ((0, 2),))
        self.assertEqual(link_ranges(study, 1, 7, (0, 5)).parts, ((0, 1),))
        self.assertEqual(link_ranges(study, 1, 7, None).parts, ((1, None),))
        self.assertEqual(link_ranges(study, 1, 3, None).parts, ((0, None),))
        study = Study(History([Version(list("ab")), Version(list("bab"), parents=[0])]))
        self.assert_same(bends(study, 1), (
            (Ratio(0), Ratio(1), 2, Ratio(0)), (Ratio(1), Ratio(2), 1, Ratio(1)), (Ratio(2), None, 0, Ratio(3))))

    def test_three_numbers_of_pieces_meet(self):
        study = Study(the_history())
        self.assert_same(bends(study, 1), ((Ratio(0), Ratio(1), 2, Ratio(0)), (Ratio(1), None, 0, Ratio(2))))

    def test_ranges_that_are_points(self):
        """A piece with a line that is only alike is, at one price, as cheap as two pieces beside it or new lines."""
        history = History([Version(["a", "b"]), Version(["a", "B"], parents=[0]), Version(["b"], parents=[0])])
        prices = Prices(alike=1, layout=FOLDED)
        study = Study(history, prices=prices)
        self.assert_same(bends(study, 1), ((Ratio(0), Ratio(1), 1, Ratio(1)), (Ratio(1), None, 0, Ratio(2))))
        self.assertEqual(link_ranges(study, 1, 1, None).parts, ((0, None),))
        self.assertEqual(link_ranges(study, 1, 1, (0, 1)).parts, ((0, 1),))
        study = Study(history, prices=Prices(alike=Ratio(3, 2), layout=FOLDED))
        self.assertEqual(link_ranges(study, 1, 1, (0, 1)).parts, ())
        history = History([Version(["a", "x", "c"]), Version(["a", "X", "c"], parents=[0])])
        study = Study(history, prices=Prices(alike=2, layout=FOLDED))
        self.assert_same(bends(study, 1), ((Ratio(0), Ratio(1), 2, Ratio(1)), (Ratio(1), None, 0, Ratio(3))))
        self.assertEqual(link_ranges(study, 1, 1, (0, 1)).parts, ((1, 1),))
        self.assertEqual(link_ranges(study, 1, 1, None).parts, ((0, None),))

    def test_ranges_that_are_open_below_and_above(self):
        study = the_study()
        self.assertEqual(link_ranges(study, 2, 0, None).parts, ((1, None),))
        self.assertEqual(link_ranges(study, 2, 0, (0, 0)).parts, ((0, 1),))
        self.assertEqual(link_ranges(study, 2, 0, (1, 1)).parts, ((0, 1),))
        self.assertEqual(origin_ranges(study, 2, 0, (0, 0)).parts, ((0, 1),))
        self.assertEqual(origin_ranges(study, 2, 0, (1, 1)).parts, ((1, 1),))
        self.assertEqual(origin_ranges(study, 2, 0, (2, 0)).parts, ((1, None),))

    def test_places_that_are_not_there(self):
        study = the_study()
        for place in [(0, 2), (3, 0), (0, 12), (0, 13), (digits(30), 0), (0, digits(200))]:
            self.assertEqual(link_ranges(study, 2, 0, place), Ranges())
            self.assertEqual(origin_ranges(study, 2, 0, place), Ranges())
        for place in [(1, 0), (2, 0), (1, 1)]:
            self.assertEqual(link_ranges(study, 1, 0, place), Ranges())
        self.assertEqual(origin_ranges(study, 1, 0, (2, 0)), Ranges())
        self.assertEqual(origin_ranges(study, 0, 0, (0, 1)), Ranges())

    def test_table(self):
        study = the_study()
        self.assert_same(origin_table(study, 2, 0), (
            (Ratio(0), Ratio(1), ((0, 0),)), (Ratio(1), Ratio(1), ((0, 0), (1, 1), (2, 0))), (Ratio(1), None, ((2, 0),))))
        self.assert_same(origin_table(study, 0, 1), (
            (Ratio(0), Ratio(1), ((0, 1),)), (Ratio(1), Ratio(1), ((0, 1),)), (Ratio(1), None, ((0, 1),))))

    def test_steps_of_other_versions(self):
        """The table of a line has the steps of versions that have nothing to do with it, too."""
        history = History([Version(["a", "b"]), Version(["a", "b"], parents=[0]), Version(["a"], parents=[0]),
                           Version(["a", "b"], parents=[1])])
        study = Study(history, prices=Prices(piece=HALF))
        self.assert_same(steps(study), (Ratio(1), Ratio(2)))
        self.assertEqual([low.text for low, high, _ in origin_table(study, 0, 0) if low == high], ["1", "2"])
        self.assertEqual(origin_ranges(study, 3, 1, (0, 1)).parts, ((0, 2),))
        self.assertEqual(origin_ranges(study, 3, 1, (1, 1)).parts, ((2, 2),))
        self.assertEqual(origin_ranges(study, 2, 0, (2, 0)).parts, ((1, None),))

    def test_far_alike_and_least(self):
        history = History([Version(["a", "b", "c"]), Version(["x"], parents=[0]), Version(["a", "B", "c"], parents=[1])])
        for far, alike, wanted in [(0, 0, ["3"]), (1, 0, ["2"]), (2, 0, ["1"]), (3, 0, []), (4, 0, []),
                                   (0, 1, ["2"]), (0, HALF, ["5/2"]), (HALF, HALF, ["2"]), (0, 2, ["1"]), (0, 3, ["1"]),
                                   (HALF, 3, ["1/2"]), (Ratio(1, digits(30)), 0, [(3 - Ratio(1, digits(30))).text])]:
            study = Study(history, prices=Prices(far=far, alike=alike, layout=FOLDED))
            self.assertEqual([step.text for step in steps(study)], wanted, (far, alike))
        study = Study(history, prices=Prices(far=HALF, alike=THIRD, layout=FOLDED, least=3))
        self.assert_same(bends(study, 2), ((Ratio(0), Ratio(13, 6), 1, Ratio(5, 6)), (Ratio(13, 6), None, 0, Ratio(3))))

    def test_long(self):
        for study in long_studies():
            everything = steps(study)
            found = set()
            for number in range(10):
                assert_bends(self, bends(study, number))
                found |= {low.text for low, _, _, _ in bends(study, number)[1:]}
            self.assertEqual(found, {step.text for step in everything})
            for place in [(9, 0), (9, 5), (9, 2), (0, 0)]:
                table = origin_table(study, *place)
                self.assertEqual(len(table), 2 * len(everything) + 1)
                here = [told for low, high, told in table
                        if low == high == study.prices.piece
                        or low < study.prices.piece and (high is None or study.prices.piece < high)]
                self.assertEqual(here, [origins(study, *place)])
                for origin in [place, (0, 0), (3, 2)]:
                    flags = [origin in told for _, _, told in table]
                    ranges = origin_ranges(study, *place, origin)
                    samples_of_cells = [low + 1 if high is None else Ratio.middle(low, high) for low, high, _ in table]
                    self.assertEqual([price in ranges for price in samples_of_cells], flags)
                links = possible_links(study, *place)
                for link in [None, (8, place[1]), (0, 0)]:
                    self.assertEqual(study.prices.piece in link_ranges(study, *place, link), link in links)

    def test_many_questions_of_one_study(self):
        study = Study(long_history(("a", "b")), prices=Prices(piece=2, far=THIRD))
        places = [(number, index) for number in range(10) for index in range(12)]
        for place in places:
            origins_there = {origin for _, _, told in origin_table(study, *place) for origin in told}
            for origin in places:
                self.assertEqual(bool(origin_ranges(study, *place, origin)), origin in origins_there)

    def test_by_name(self):
        study = the_study()
        self.assertEqual(bends(number=1, study=study), bends(study, 1))
        self.assertEqual(steps(study=study), (1,))
        self.assertEqual(link_ranges(link=None, index=0, number=1, study=study).parts, ((1, None),))
        self.assertEqual(origin_ranges(origin=(1, 0), index=0, number=1, study=study).parts, ((1, None),))
        self.assertEqual(origin_table(index=0, number=1, study=study), origin_table(study, 1, 0))
        for ask in [bends, steps, link_ranges, origin_ranges, origin_table]:
            self.assertEqual(ask.__module__, module.__name__)


class TestWrongValues(Case):

    def asks(self):
        return [origin_table, lambda *args: link_ranges(*args, None), lambda *args: link_ranges(*args, (0, 0)),
                lambda *args: origin_ranges(*args, (0, 0)), lambda *args: origin_ranges(*args, (9, 9))]

    def test_no_version(self):
        for history in [the_history(), History()]:
            study = Study(history)
            for value in no_indices(len(history)):
                self.assert_refused(InvalidNumber, value, bends, study, value)
                for ask in self.asks():
                    self.assert_refused(InvalidNumber, value, ask, study, value, 0)
                    self.assert_refused(InvalidNumber, value, ask, study, value, "no")

    def test_no_line(self):
        study = Study(History([Version([]), Version(["a", "b"], parents=[0])]))
        for number, size in [(0, 0), (1, 2)]:
            for value in no_indices(size):
                for ask in self.asks():
                    self.assert_refused(InvalidNumber, value, ask, study, number, value)

    def test_asked_again_after_an_error(self):
        study = the_study()
        self.assert_refused(InvalidNumber, 3, bends, study, 3)
        self.assertEqual(len(bends(study, 1)), 2)
        self.assertEqual(study, the_study())
