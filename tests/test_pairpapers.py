"""Papers for pairs of links (points 15 and 3 (i), and pairpapers.py)."""

import itertools
import random

from lineorigins import pairpapers
from lineorigins.cheapest import ahead, behind, cheapest_price
from lineorigins.errors import InvalidLine, InvalidPrices
from lineorigins.histories import History, Version
from lineorigins.pairpapers import accepts_pairs, pair_paper
from lineorigins.pairs import links_together
from lineorigins.prices import Prices
from lineorigins.ratios import Ratio
from lineorigins.studies import Study
from lineorigins.tellings import links_of, price_of
from tests.checking import Checker, changed
from tests.listing import NEW, in_order, take
from tests.samples import FOLDED, HALF, long_studies, samples, the_history, the_study
from tests.support import AGREEABLE, RUDE, Case, digits
from tests.test_pairs import NO_PLACES
from tests.test_papers import ANY_OBJECTS, NO_PRICES, put


def pairs_of_lines(listing, number):
    return itertools.product(range(len(listing.texts[number])), repeat=2)


class TestListed(Case):

    def test_the_paper_of_the_program(self):
        for study, listing in samples()[::2]:
            for number in range(len(listing.texts)):
                between = self.prices_between(listing, number)
                for index, other in pairs_of_lines(listing, number):
                    paper = pair_paper(study, (number, index), (number, other))
                    self.assertEqual([type(paper), len(paper)], [tuple, 4])
                    self.check_tellings(study, number, paper[0], (index, other))
                    self.assertEqual(paper[1:3], (ahead(study, number), behind(study, number)))
                    self.assertEqual(paper[3], between)
                    self.assertEqual({Ratio}, {type(bound) for row in paper[1:3] + paper[3] for bound in row})
                    self.assertEqual({tuple}, {type(row) for row in paper + paper[3]})
                    found = accepts_pairs(study.history, (number, index), (number, other),
                                          links_together(study, (number, index), (number, other)), paper,
                                          prices=study.prices)
                    self.assertIs(found, True)

    def prices_between(self, listing, number):
        points = range(len(listing.texts[number]) + 1)
        found = [[listing.least_price(number, one, other) if one <= other else 0 for other in points] for one in points]
        return tuple([tuple([Ratio(price.numerator, price.denominator) for price in row]) for row in found])

    def check_tellings(self, study, number, tellings, lines):
        links = [links_of(study.history, number, telling, prices=study.prices) for telling in tellings]
        pairs = tuple([(told[lines[0]], told[lines[1]]) for told in links])
        self.assertEqual(pairs, links_together(study, (number, lines[0]), (number, lines[1])))
        for telling in tellings:
            price = price_of(study.history, number, telling, prices=study.prices)
            self.assertEqual(price, cheapest_price(study, number))

    def test_other_claims(self):
        """No other pairs are accepted, even with right tellings for them."""
        for study, listing in samples()[::6]:
            for number in range(len(listing.texts)):
                for index, other in pairs_of_lines(listing, number):
                    first, second = (number, index), (number, other)
                    pairs = links_together(study, first, second)
                    _, *bounds = pair_paper(study, first, second)
                    told = dict([((links[index], links[other]), telling)
                                 for telling, links, _ in listing.told_behind(number, 0)])
                    for pair in told:
                        claim = in_order(set(pairs) ^ {pair})
                        paper = (tuple([told[one] for one in claim]), *bounds)
                        found = accepts_pairs(study.history, first, second, claim, paper, prices=study.prices)
                        self.assertIs(found, False)

    def test_changed_papers(self):
        """The answers beside a checker that goes through all conditions."""
        source = random.Random(17)
        accepted = refused = 0
        for study, listing in samples()[::4]:
            for number in range(len(listing.texts)):
                checker = Checker(listing, number)
                for index, other in pairs_of_lines(listing, number):
                    first, second = (number, index), (number, other)
                    pairs, right = links_together(study, first, second), pair_paper(study, first, second)
                    for _ in range(8):
                        paper, claim = right, pairs
                        for _ in range(source.choice([1, 1, 2])):
                            paper = self.changed_somewhere(paper, source)
                        if source.random() < 0.15:
                            claim = changed(claim, source)
                        found = accepts_pairs(study.history, first, second, claim, paper, prices=study.prices)
                        self.assertIs(found, checker.accepts_pairs(index, other, claim, paper), (claim, paper))
                        accepted, refused = accepted + found, refused + (not found)
                        if found:
                            self.assertEqual(claim, pairs)
        self.assertGreater(accepted, 300)
        self.assertGreater(refused, 2000)

    def changed_somewhere(self, paper, source):
        """Half of the time one bound between two points is another ratio."""
        between = paper[3] if type(paper) is tuple and len(paper) == 4 else None
        if source.random() < 0.5 or type(between) is not tuple or not between or type(between[0]) is not tuple:
            return changed(paper, source)
        row = source.randrange(len(between))
        if type(between[row]) is not tuple or len(between[row]) <= row:
            return changed(paper, source)
        at = source.randrange(row, len(between[row]))
        if type(between[row][at]) is not Ratio:
            return changed(paper, source)
        bound = between[row][at] - source.choice([Ratio(1, 6), Ratio(1, 3), HALF, Ratio(1), Ratio(2), Ratio(-1, 6)])
        return put(paper, 3, put(between, row, put(between[row], at, bound)))


class TestConditions(Case):
    """Each condition broken alone: the first and the last line are taken together, or are both new."""

    def setUp(self):
        self.history = History([Version(["a", "x", "b"]), Version(["a", "y", "b"], parents=[0])])
        self.prices = Prices(piece=HALF)
        self.first, self.second = (1, 0), (1, 2)
        self.pairs = (((0, 0), (0, 2)),)
        self.tellings = ((take(0, 0, 1), NEW, take(0, 2, 1)),)
        self.ahead = (Ratio(0), HALF, Ratio(3, 2), Ratio(2))
        self.behind = self.ahead[::-1]
        zero = Ratio(0)
        self.between = (self.ahead, (zero, zero, Ratio(1), Ratio(3, 2)), (zero, zero, zero, HALF), (zero,) * 4)

    def answer(self, **others):
        """The answer for the right paper with other parts, and other arguments, as named."""
        names = ["tellings", "ahead", "behind", "between", "pairs", "first", "second", "history", "prices"]
        *paper, pairs, first, second, history, prices = [others.get(name, getattr(self, name)) for name in names]
        found = accepts_pairs(history, first, second, pairs, others.get("value", tuple(paper)), prices=prices)
        self.assertIs(type(found), bool)
        return found

    def test_right(self):
        self.assertTrue(self.answer())
        self.assertEqual(pair_paper(Study(self.history, prices=self.prices), self.first, self.second),
                         (self.tellings, self.ahead, self.behind, self.between))

    def test_lines_in_the_other_order(self):
        self.assertTrue(self.answer(first=self.second, second=self.first, pairs=(((0, 2), (0, 0)),)))
        self.assertFalse(self.answer(first=self.second, second=self.first))
        self.assertFalse(self.answer(pairs=(((0, 2), (0, 0)),)))

    def test_claimed_pairs(self):
        right, (told,) = self.pairs[0], self.tellings
        for pairs in [(), (right, right), list(self.pairs), (list(right),), right, ((right[0],),), ((*right, None),),
                      (([0, 0], (0, 2)),), (((False, 0), (0, 2)),), (((0, 0), (0, True)),), (((0, 0), None),),
                      ((None, (0, 2)),), ((None, None),), ((None, None), right), (right, ((0, 0), (0, 3))),
                      (right, ((9, 9), (9, 9))), (right, None), (right, (RUDE, RUDE)), (right, (AGREEABLE, AGREEABLE)),
                      (((0, Ratio(0)), (0, 2)),), (((0, 0), (0, 1)), right), (((-1, 0), (0, 2)), right)]:
            self.assertFalse(self.answer(pairs=pairs))
            size = len(pairs)
            self.assertFalse(self.answer(pairs=pairs, tellings=(told,) * size))

    def test_claims_of_any_kind(self):
        for value in ANY_OBJECTS:
            self.assertFalse(self.answer(pairs=value))
            self.assertFalse(self.answer(pairs=value, value=value))

    def test_pairs_left_out_twice_and_out_of_order(self):
        """Both lines are new, or both are of one piece."""
        history = History([Version(["a", "b"]), Version(["a", "b"], parents=[0])])
        prices = Prices(piece=2)
        ask = [history, (1, 0), (1, 1)]
        tellings, *bounds = pair_paper(Study(history, prices=prices), (1, 0), (1, 1))
        pairs = ((None, None), ((0, 0), (0, 1)))
        self.assertEqual(tellings, ((NEW, NEW), (take(0, 0, 2),)))
        for chosen in [(), (0,), (1,), (1, 0), (0, 0, 1), (0, 1, 1), (0, 0), (1, 1), (0, 1)]:
            paper = (tuple([tellings[at] for at in chosen]), *bounds)
            claim = tuple([pairs[at] for at in chosen])
            self.assertIs(accepts_pairs(*ask, claim, paper, prices=prices), chosen == (0, 1))
        for claim in [((None, None), (None, (0, 1)), ((0, 0), (0, 1))), ((None, (0, 1)), ((0, 0), None))]:
            for paper in [((NEW, NEW),) * len(claim), ((NEW, NEW), (NEW, NEW), (take(0, 0, 2),)), tellings]:
                self.assertIs(accepts_pairs(*ask, claim, (paper, *bounds), prices=prices), False)

    def test_tellings(self):
        right = self.tellings[0]
        for tellings in [(), (right, right), None, [right], right, ((NEW, NEW, NEW),), ((take(0, 0, 1), NEW, NEW),), ((),),
                         (None,), (list(right),), (right[:2],), (right + (NEW,),), ((("take", False, 0, 1), *right[1:]),),
                         (RUDE,), (AGREEABLE,), RUDE, AGREEABLE, ((take(0, 0, 1), take(0, 1, 1), take(0, 2, 1)),)]:
            self.assertFalse(self.answer(tellings=tellings))

    def test_a_telling_of_another_price(self):
        history = History([Version(["a", "b"]), Version(["a", "b"], parents=[0])])
        pairs = ((None, None), ((0, 0), (0, 1)))
        for piece in [Ratio(2), Ratio(1), Ratio(3)]:
            study = Study(history, prices=Prices(piece=piece))
            paper = put(pair_paper(study, (1, 0), (1, 1)), 0, ((NEW, NEW), (take(0, 0, 2),)))
            found = accepts_pairs(history, (1, 0), (1, 1), pairs, paper, prices=study.prices)
            self.assertIs(found, piece == 2)
        # Dearer tellings of one price, with bounds that reach it as far as they may.
        prices = Prices(piece=HALF)
        bounds = (Ratio(0), HALF, HALF)
        paper = (((NEW, NEW),), bounds, bounds[::-1], (bounds, (Ratio(0), Ratio(0), HALF), (Ratio(0),) * 3))
        self.assertIs(accepts_pairs(history, (1, 0), (1, 1), pairs[:1], paper, prices=prices), False)

    def test_ahead_and_behind(self):
        for at in range(4):
            for step in [Ratio(1, 1000), Ratio(1), digits(199)]:
                self.assertFalse(self.answer(ahead=put(self.ahead, at, self.ahead[at] + step)))
                self.assertFalse(self.answer(behind=put(self.behind, at, self.behind[at] + step)))
                self.assertFalse(self.answer(ahead=put(self.ahead, at, self.ahead[at] - step)))
                self.assertEqual(self.answer(behind=put(self.behind, at, self.behind[at] - step)), at == 0)

    def test_between(self):
        """Raised anywhere from a point to a later one, or at the point itself, a bound is too high."""
        for one, other in itertools.product(range(4), repeat=2):
            for step in [Ratio(1, 1000), Ratio(1), digits(199)]:
                row = put(self.between[one], other, self.between[one][other] + step)
                self.assertEqual(self.answer(between=put(self.between, one, row)), one > other, (one, other))

    def test_between_that_is_lower(self):
        # To the end, and from points that no step of the first line ends at, lower bounds do no harm.
        for one, other, wanted in [(0, 3, True), (1, 3, True), (2, 3, True), (0, 2, False), (1, 2, False), (0, 1, False),
                                   (0, 0, False), (1, 1, False), (2, 2, False), (3, 3, False), (2, 1, True), (3, 0, True)]:
            row = put(self.between[one], other, self.between[one][other] - Ratio(1, 1000))
            self.assertEqual(self.answer(between=put(self.between, one, row)), wanted, (one, other))
        # Lower all the way, they no longer show that two pieces of other links are dearer.
        for low, wanted in [(Ratio(1), True), (Ratio(3, 4), True), (HALF, False), (Ratio(0), False), (Ratio(-1), False)]:
            row = (Ratio(0), Ratio(0), low, low)
            self.assertEqual(self.answer(between=put(self.between, 1, row)), wanted, low)

    def test_between_must_be_0_from_a_point_to_itself(self):
        zero = Ratio(0)
        for low in [Ratio(-1, 1000), Ratio(-1)]:
            rows = (tuple([bound + low for bound in self.ahead]), (zero, low, Ratio(1) + low, Ratio(3, 2) + low),
                    (zero, zero, low, HALF + low), (zero, zero, zero, low))
            for at in range(4):
                self.assertFalse(self.answer(between=put(self.between, at, rows[at])))

    def test_forms_of_bounds(self):
        for at, row in enumerate(self.between):
            for value in [row[:-1], row + row[-1:], (Ratio(0),) + row, list(row), None, (), RUDE, AGREEABLE]:
                self.assertFalse(self.answer(between=put(self.between, at, value)))
            for point in range(4):
                for value in [0, 1, None, True, "0", RUDE, AGREEABLE]:
                    self.assertFalse(self.answer(between=put(self.between, at, put(row, point, value))))
        for value in [self.between[:-1], self.between[1:], self.between + self.between[-1:], list(self.between), None, (),
                      self.ahead, RUDE, AGREEABLE, (RUDE,) * 4, (AGREEABLE,) * 4]:
            self.assertFalse(self.answer(between=value))
        for name in ["ahead", "behind"]:
            row = getattr(self, name)
            for value in [row[:-1], row + row[-1:], (Ratio(0),) + row, list(row), None, (), RUDE, AGREEABLE]:
                self.assertFalse(self.answer(**{name: value}))
            for point in range(4):
                for value in [0, 1, None, True, "0", RUDE, AGREEABLE]:
                    self.assertFalse(self.answer(**{name: put(row, point, value)}))

    def test_papers_of_any_kind(self):
        right = (self.tellings, self.ahead, self.behind, self.between)
        for value in [*ANY_OBJECTS, right[:3], right + ((),), list(right), right[::-1], (right,), (None,) * 4]:
            self.assertFalse(self.answer(value=value))

    def test_other_lines_or_prices(self):
        self.assertFalse(self.answer(second=(1, 1)))
        self.assertFalse(self.answer(first=(1, 1)))
        self.assertFalse(self.answer(first=(0, 0), second=(0, 2)))
        self.assertFalse(self.answer(prices=Prices()))
        self.assertFalse(self.answer(prices=None))
        self.assertFalse(self.answer(history=self.history.amended(0, ["a", "x", "x"])))
        self.assertFalse(self.answer(history=self.history.amended(0, ["a", "b", "b"])))

    def test_the_same_line_twice(self):
        study = Study(self.history)
        paper = pair_paper(study, (1, 0), (1, 0))
        self.assertEqual(paper[0], ((NEW, NEW, NEW), (take(0, 0, 1), NEW, NEW)))
        pairs = ((None, None), ((0, 0), (0, 0)))
        self.assertTrue(accepts_pairs(self.history, (1, 0), (1, 0), pairs, paper))
        for claim in [pairs[:1], pairs[1:], ((None, (0, 0)), ((0, 0), None)), ((None, None), ((0, 0), (0, 1)))]:
            self.assertFalse(accepts_pairs(self.history, (1, 0), (1, 0), claim, paper))
            fewer = put(paper, 0, paper[0][:1] if claim == pairs[:1] else paper[0][1:])
            self.assertFalse(accepts_pairs(self.history, (1, 0), (1, 0), claim, fewer))

    def test_large_numbers(self):
        prices = Prices(piece=Ratio(1, digits(200)), alike=Ratio(1, digits(199)), layout=FOLDED)
        history = History([Version(["a", "b"]), Version(["A", "x", "b"], parents=[0])])
        study = Study(history, prices=prices)
        paper, pairs = pair_paper(study, (1, 0), (1, 2)), (((0, 0), (0, 1)),)
        self.assertTrue(accepts_pairs(history, (1, 0), (1, 2), pairs, paper, prices=prices))
        rows = put(paper[3], 1, put(paper[3][1], 3, paper[3][1][3] + Ratio(1, 10 ** 199 + 1)))
        self.assertFalse(accepts_pairs(history, (1, 0), (1, 2), pairs, put(paper, 3, rows), prices=prices))

    def test_long(self):
        for study in long_studies():
            for first, second in [((9, 0), (9, 11)), ((9, 6), (9, 5)), ((5, 3), (5, 3))]:
                paper, pairs = pair_paper(study, first, second), links_together(study, first, second)
                ask = [study.history, first, second]
                self.assertTrue(accepts_pairs(*ask, pairs, paper, prices=study.prices))
                for at in range(0, len(pairs), 1 + len(pairs) // 4):
                    fewer = put(paper, 0, paper[0][:at] + paper[0][at + 1:])
                    self.assertFalse(accepts_pairs(*ask, pairs[:at] + pairs[at + 1:], fewer, prices=study.prices))

    def test_by_name(self):
        study = the_study()
        paper = pair_paper(second=(1, 1), first=(1, 0), study=study)
        self.assertTrue(accepts_pairs(prices=study.prices, value=paper, pairs=(((0, 1), (0, 0)),), second=(1, 1),
                                      first=(1, 0), history=study.history))
        with self.assertRaises(TypeError):
            accepts_pairs(study.history, (1, 0), (1, 1), (((0, 1), (0, 0)),), paper, study.prices)
        for ask in [pair_paper, accepts_pairs]:
            self.assertEqual(ask.__module__, pairpapers.__name__)


class TestWrongValues(Case):

    def asks(self):
        return [lambda first, second: pair_paper(the_study(), first, second),
                lambda first, second: accepts_pairs(the_history(), first, second, None, None),
                lambda first, second: accepts_pairs(the_history(), first, second, RUDE, RUDE, prices="no")]

    def test_no_places(self):
        for ask in self.asks():
            for value in NO_PLACES:
                self.assert_refused(InvalidLine, value, ask, value, (0, 0))
                self.assert_refused(InvalidLine, value, ask, value, (0, 9))
                self.assert_refused(InvalidLine, value, ask, (0, 0), value)

    def test_places_of_two_versions(self):
        for ask in self.asks():
            for first, second in itertools.permutations([(0, 0), (1, 1), (2, 0)], 2):
                self.assert_refused(InvalidLine, second, ask, first, second)

    def test_no_prices(self):
        """Only if both places are right are the prices refused."""
        for value in NO_PRICES:
            for pairs in [None, RUDE, ()]:
                self.assert_refused(InvalidPrices, value, accepts_pairs, the_history(), (1, 0), (1, 1), pairs, pairs,
                                    prices=value)
            second = (2, 0)
            self.assert_refused(InvalidLine, second, accepts_pairs, the_history(), (1, 0), second, (), (), prices=value)
