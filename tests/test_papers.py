"""Papers for the links of a line (points 11 and 3 (i), and papers.py)."""

import random

from lineorigins import papers
from lineorigins.cheapest import ahead, behind, possible_links, telling_with
from lineorigins.errors import InvalidNumber, InvalidPrices
from lineorigins.histories import History, Version
from lineorigins.papers import accepts_links, link_paper
from lineorigins.prices import Prices
from lineorigins.ratios import Ratio
from lineorigins.studies import Study
from tests.checking import Checker, changed
from tests.examples import run_example
from tests.listing import NEW, in_order, take
from tests.samples import FOLDED, HALF, long_studies, samples, the_history, the_study
from tests.support import AGREEABLE, RUDE, Case, digits, no_indices

EXAMPLE = """
>>> from lineorigins.histories import History, Version
>>> from lineorigins.ratios import Ratio
>>> from lineorigins.prices import Prices
>>> from lineorigins.studies import Study
>>> from lineorigins.papers import accepts_links, link_paper
>>> history = History([Version(['a', 'b']), Version(['b', 'a'], parents=[0], author='ann'), Version(['a'], parents=[1])])
>>> study = Study(history, prices=Prices(piece=Ratio(1, 2)))
>>> paper = link_paper(study, 2, 0)
>>> [accepts_links(history, 2, 0, ((0, 0), (1, 1)), paper, prices=study.prices), accepts_links(history, 2, 0, ((0, 0),), paper, prices=study.prices)]
[True, False]
"""
NO_PRICES = [True, False, 0, "", (), [], {}, object(), AGREEABLE, RUDE, Prices, Ratio(1), the_history()]
ANY_OBJECTS = [None, True, False, 0, 1, "", "new", (), [], {}, {1}, object(), RUDE, AGREEABLE, (RUDE,), (AGREEABLE,),
               (None, RUDE), (AGREEABLE, AGREEABLE), (RUDE, RUDE, RUDE), (AGREEABLE,) * 3, (RUDE,) * 4, ((RUDE, RUDE),),
               ((AGREEABLE, AGREEABLE),), tuple, Ratio(1), the_history()]


def put(items, at, value):
    """The tuple with another item at this index."""
    return items[:at] + (value,) + items[at + 1:]


class TestListed(Case):

    def test_the_paper_of_the_program(self):
        for study, listing in samples():
            for number, index in listing.places:
                links = possible_links(study, number, index)
                paper = link_paper(study, number, index)
                tellings = tuple([telling_with(study, number, index, link) for link in links])
                self.assert_same(paper[0], tellings)
                self.assertEqual(paper[1:], (ahead(study, number), behind(study, number)))
                self.assertEqual({Ratio}, {type(bound) for row in paper[1:] for bound in row})
                self.assertIs(type(paper), tuple)
                found = accepts_links(study.history, number, index, links, paper, prices=study.prices)
                self.assertIs(found, True)

    def test_other_claims(self):
        """No other links are accepted, even with right tellings for them."""
        for study, listing in samples()[::3]:
            for number, index in listing.places:
                links = possible_links(study, number, index)
                _, *bounds = link_paper(study, number, index)
                told = dict([(links[index], telling) for telling, links, _ in listing.told_behind(number, 0)])
                for link in told:
                    claim = in_order(set(links) ^ {link})
                    paper = (tuple([told[one] for one in claim]), *bounds)
                    found = accepts_links(study.history, number, index, claim, paper, prices=study.prices)
                    self.assertIs(found, False)

    def test_changed_papers(self):
        """The answers beside a checker that goes through all conditions."""
        source = random.Random(11)
        accepted = refused = 0
        for study, listing in samples()[::2]:
            for number in range(len(listing.texts)):
                checker = Checker(listing, number)
                for index in range(checker.size):
                    links = possible_links(study, number, index)
                    for _ in range(12):
                        paper, claim = link_paper(study, number, index), links
                        for _ in range(source.randint(1, 2)):
                            paper = changed(paper, source)
                        if source.random() < 0.2:
                            claim = changed(claim, source)
                        found = accepts_links(study.history, number, index, claim, paper, prices=study.prices)
                        self.assertIs(found, checker.accepts_links(index, claim, paper), (claim, paper))
                        accepted, refused = accepted + found, refused + (not found)
                        if found:
                            self.assertEqual(claim, links)
        self.assertGreater(accepted, 200)
        self.assertGreater(refused, 2000)


class TestConditions(Case):
    """Each condition broken alone: two sources tie, and a piece of two lines is as cheap as pieces of one."""

    def setUp(self):
        self.history = History([Version(["a", "b"]), Version(["b", "a"], parents=[0]),
                                Version(["x", "a", "y"], parents=[0, 1])])
        self.links = ((0, 0), (1, 1))
        self.tellings = ((NEW, take(0, 0, 1), NEW), (NEW, take(1, 1, 1), NEW))
        self.ahead = (Ratio(0), Ratio(1), Ratio(3, 2), Ratio(5, 2))
        self.behind = (Ratio(5, 2), Ratio(3, 2), Ratio(1), Ratio(0))

    def answer(self, index=1, **others):
        """The answer for the right paper with other parts, and other claims, as named."""
        parts = {name: others.get(name, getattr(self, name)) for name in ["links", "tellings", "ahead", "behind"]}
        links = parts.pop("links")
        found = accepts_links(self.history, 2, index, links, tuple(parts.values()), prices=Prices(piece=HALF))
        self.assertIs(type(found), bool)
        return found

    def test_right(self):
        self.assertTrue(self.answer())
        self.assertEqual(link_paper(Study(self.history, prices=Prices(piece=HALF)), 2, 1),
                         (self.tellings, self.ahead, self.behind))

    def test_tellings_of_any_kind_with_the_link(self):
        """The tellings need not be the first ones."""
        history = History([Version(["a"]), Version(["a", "a"], parents=[0])])
        bounds = ((Ratio(0), Ratio(1), Ratio(2)), (Ratio(2), Ratio(1), Ratio(0)))
        for first in [NEW, take(0, 0, 1)]:
            for second in [NEW, take(0, 0, 1)]:
                paper = (((NEW, first), (take(0, 0, 1), second)), *bounds)
                self.assertTrue(accepts_links(history, 1, 0, (None, (0, 0)), paper))

    def test_claimed_links(self):
        one, other = self.tellings
        new = (NEW, NEW, NEW)
        for links, tellings in [
                (((0, 0),), (one,)), (((1, 1),), (other,)), ((), ()), (((1, 1), (0, 0)), (other, one)),
                (((0, 0), (0, 0), (1, 1)), (one, one, other)), ((None, (0, 0), (1, 1)), (new, one, other)),
                (((0, 0), (1, 1), (1, 1)), (one, other, other)), (((0, 0), (1, 1), None), (one, other, new)),
                ([(0, 0), (1, 1)], self.tellings), (((0, 0), [1, 1]), self.tellings),
                (((0, 0), (1, True)), self.tellings), (((False, 0), (1, 1)), self.tellings),
                (((0, 0), (1, 1, 1)), self.tellings), (((0, 0), (1,)), self.tellings),
                (((0, 0), (0, 1), (1, 1)), (one, one, other)), (((-1, 0), (0, 0), (1, 1)), (one, one, other)),
                (((0, 0), (1, 1), (9, 9)), (one, other, other)), (((0, 0), (1, Ratio(1))), self.tellings)]:
            self.assertFalse(self.answer(links=links, tellings=tellings))
            self.assertFalse(self.answer(links=links))

    def test_claims_of_any_kind(self):
        for value in ANY_OBJECTS:
            self.assertFalse(self.answer(links=value))
            self.assertIs(accepts_links(self.history, 2, 1, value, value), False)

    def test_tellings(self):
        one, other = self.tellings
        for tellings in [
                (one,), (other,), (other, one), (one, one), (other, other), (one, other, other), (one, one, other),
                ((NEW, NEW, NEW), other), (one, (NEW, NEW, NEW)), (one, ()), (one, None), (one, (NEW, take(1, 1, 1))),
                (one, (NEW, take(1, 1, 1), NEW, NEW)), (one, [NEW, take(1, 1, 1), NEW]), [one, other], None, (), "",
                (one, (NEW, take(1, 0, 1), NEW)), (one, (NEW, ("take", True, 1, 1), NEW)), (one, RUDE),
                (one, (AGREEABLE, take(1, 1, 1), NEW)), (AGREEABLE, AGREEABLE), one + other, RUDE, AGREEABLE]:
            self.assertFalse(self.answer(tellings=tellings))

    def test_a_telling_of_another_price(self):
        """All other conditions hold here, for the dearer and for the cheaper telling."""
        history = History([Version(["a"]), Version(["a"], parents=[0])])
        tellings = ((NEW,), (take(0, 0, 1),))
        for bound in [HALF, Ratio(1)]:
            paper = (tellings, (Ratio(0), bound), (bound, Ratio(0)))
            links = (None, (0, 0))
            self.assertFalse(accepts_links(history, 1, 0, links, paper, prices=Prices(piece=HALF)))
            self.assertEqual(accepts_links(history, 1, 0, links, paper), bound == 1)

    def test_dearer_tellings_throughout(self):
        paper = (((NEW, NEW, NEW),), tuple(map(Ratio, range(4))), tuple(map(Ratio, [3, 2, 1, 0])))
        self.assertFalse(accepts_links(self.history, 2, 1, (None,), paper, prices=Prices(piece=HALF)))
        self.assertTrue(accepts_links(self.history, 2, 1, (None,), paper, prices=Prices(piece=2)))
        # Lower bounds hold, but do not show that the links left out are dearer.
        for low in [Ratio(-5), Ratio(0), Ratio(1)]:
            paper = (((NEW, NEW, NEW),), (Ratio(0), low, low, Ratio(3)), (low, low, low, Ratio(0)))
            self.assertFalse(accepts_links(self.history, 2, 1, (None,), paper, prices=Prices(piece=HALF)))

    def test_ahead(self):
        for at in range(4):
            for step in [Ratio(1, 1000), Ratio(1), digits(199)]:
                self.assertFalse(self.answer(ahead=put(self.ahead, at, self.ahead[at] + step)), at)
                self.assertFalse(self.answer(ahead=put(self.ahead, at, self.ahead[at] - step)), at)

    def test_behind(self):
        for at in range(4):
            for step in [Ratio(1, 1000), Ratio(1), digits(199)]:
                self.assertFalse(self.answer(behind=put(self.behind, at, self.behind[at] + step)), at)
        for step in [Ratio(1, 1000), Ratio(1)]:
            self.assertFalse(self.answer(behind=put(self.behind, 3, -step)))
            # The lower the price behind point 0 the weaker: but here no step of the line begins there.
            self.assertTrue(self.answer(behind=put(self.behind, 0, self.behind[0] - step)))
        self.assertFalse(self.answer(behind=put(self.behind, 2, HALF)))

    def test_weaker_bounds_that_still_show_it(self):
        """Bounds may be lower than the least prices, and below zero, where enough is left."""
        history = History([Version(["b"]), Version(["x", "a"], parents=[0])])
        tellings, links = ((NEW, NEW),), (None,)
        for one in [Ratio(1), Ratio(1, 3), Ratio(0), Ratio(-7)]:
            for other in [Ratio(2), Ratio(1), Ratio(-7)]:
                paper = (tellings, (Ratio(0), Ratio(1), Ratio(2)), (other, one, Ratio(0)))
                self.assertEqual(accepts_links(history, 1, 0, links, paper), other <= 1 + one)
                paper = (tellings, (Ratio(0), one, Ratio(2)), (Ratio(2), Ratio(1), Ratio(0)))
                self.assertEqual(accepts_links(history, 1, 0, links, paper), one == 1)

    def test_more_than_the_price_is_needed(self):
        """A step that costs just as much gives a possible link."""
        history = History([Version(["a"]), Version(["a"], parents=[0])])
        bounds = ((Ratio(0), Ratio(1)), (Ratio(1), Ratio(0)))
        self.assertFalse(accepts_links(history, 1, 0, (None,), (((NEW,),), *bounds)))
        self.assertTrue(accepts_links(history, 1, 0, (None,), (((NEW,),), *bounds), prices=Prices(piece=Ratio(101, 100))))
        self.assertFalse(accepts_links(history, 1, 0, ((0, 0),), (((take(0, 0, 1),),), *bounds)))

    def test_kinds_of_bounds(self):
        for value in [0, 1, None, True, "0", 0.0, RUDE, AGREEABLE, (Ratio(0),)]:
            for at in range(4):
                self.assertFalse(self.answer(ahead=put(self.ahead, at, value)))
                self.assertFalse(self.answer(behind=put(self.behind, at, value)))
        for row in [self.ahead, self.behind]:
            for value in [row[:-1], row[1:], row + (Ratio(0),), row + row[-1:], (Ratio(0),) + row, list(row), None, (),
                          RUDE, AGREEABLE, {}, row[0]]:
                paper = (self.tellings, value if row == self.ahead else self.ahead,
                         value if row == self.behind else self.behind)
                self.assertIs(accepts_links(self.history, 2, 1, self.links, paper, prices=Prices(piece=HALF)), False)

    def test_integers_in_the_places_of_equal_ratios(self):
        self.assertFalse(self.answer(ahead=put(self.ahead, 0, 0)))
        self.assertFalse(self.answer(ahead=put(self.ahead, 1, 1)))
        self.assertFalse(self.answer(behind=put(self.behind, 2, 1)))
        self.assertFalse(self.answer(behind=put(self.behind, 3, 0)))

    def test_papers_of_any_kind(self):
        right = (self.tellings, self.ahead, self.behind)
        for value in [*ANY_OBJECTS, right[:2], right + ((),), list(right), (right,), right[::-1], (None,) * 3,
                      ((), (), ()), (self.tellings, self.behind, self.ahead)]:
            found = accepts_links(self.history, 2, 1, self.links, value, prices=Prices(piece=HALF))
            self.assertIs(found, False)

    def test_another_line_version_or_prices(self):
        paper = (self.tellings, self.ahead, self.behind)
        self.assertFalse(self.answer(index=0))
        self.assertFalse(self.answer(index=2))
        self.assertFalse(accepts_links(self.history, 1, 1, self.links, paper, prices=Prices(piece=HALF)))
        self.assertFalse(accepts_links(self.history, 2, 1, self.links, paper))
        self.assertFalse(accepts_links(self.history, 2, 1, self.links, paper, prices=Prices(piece=HALF, least=2)))
        self.assertFalse(accepts_links(self.history, 2, 1, self.links, paper, prices=None))
        amended = self.history.amended(0, ["a", "a"])
        self.assertFalse(accepts_links(amended, 2, 1, self.links, paper, prices=Prices(piece=HALF)))

    def test_a_line_of_a_piece_of_several(self):
        """The link of a line inside a piece depends on where in it the line stands."""
        history = History([Version(["a", "b", "a", "b"]), Version(["a", "b"], parents=[0])])
        study = Study(history)
        paper = link_paper(study, 1, 1)
        self.assertEqual(paper[0], ((take(0, 0, 2),), (take(0, 2, 2),)))
        self.assertTrue(accepts_links(history, 1, 1, ((0, 1), (0, 3)), paper))
        for links in [((0, 0), (0, 2)), ((0, 1),), ((0, 3),), ((0, 1), (0, 2)), ((0, 1), (0, 3), (0, 4))]:
            self.assertFalse(accepts_links(history, 1, 1, links, paper))

    def test_large_numbers(self):
        big = digits(200)
        history = History([Version(["a"]), Version(["A"], parents=[0])])
        prices = Prices(piece=Ratio(1, big), alike=Ratio(1, big + 2), layout=FOLDED)
        study = Study(history, prices=prices)
        paper = link_paper(study, 1, 0)
        self.assertTrue(accepts_links(history, 1, 0, ((0, 0),), paper, prices=prices))
        tellings, before, _ = paper
        behind_all = (before[1] - Ratio(1, 10 ** 199), Ratio(0))
        self.assertTrue(accepts_links(history, 1, 0, ((0, 0),), (tellings, before, behind_all), prices=prices))
        behind_all = (before[1] + Ratio(1, 10 ** 199 + 3), Ratio(0))
        self.assertFalse(accepts_links(history, 1, 0, ((0, 0),), (tellings, before, behind_all), prices=prices))

    def test_long(self):
        for study in long_studies():
            for number, index in [(9, 0), (5, 3), (1, 2), (0, 1)]:
                links = possible_links(study, number, index)
                tellings, *bounds = link_paper(study, number, index)
                ask = [study.history, number, index]
                self.assertTrue(accepts_links(*ask, links, (tellings, *bounds), prices=study.prices))
                for at in range(len(links)):
                    fewer = (tellings[:at] + tellings[at + 1:], *bounds)
                    self.assertFalse(accepts_links(*ask, links[:at] + links[at + 1:], fewer, prices=study.prices))

    def test_prices_stand_for_the_usual_ones(self):
        paper = link_paper(Study(the_history()), 1, 0)
        for more in [{}, {"prices": None}, {"prices": Prices()}]:
            self.assertTrue(accepts_links(the_history(), 1, 0, (None, (0, 1)), paper, **more))

    def test_by_name(self):
        study = the_study()
        paper = link_paper(index=0, number=2, study=study)
        self.assertTrue(accepts_links(prices=study.prices, value=paper, links=((0, 0), (1, 1)), index=0, number=2,
                                      history=study.history))
        with self.assertRaises(TypeError):
            accepts_links(study.history, 2, 0, ((0, 0),), paper, study.prices)
        for ask in [link_paper, accepts_links]:
            self.assertEqual(ask.__module__, papers.__name__)


class TestWrongValues(Case):

    def test_example(self):
        self.assertEqual(*run_example(EXAMPLE))

    def test_no_version(self):
        for history in [the_history(), History()]:
            for value in no_indices(len(history)):
                self.assert_refused(InvalidNumber, value, link_paper, Study(history), value, 0)
                self.assert_refused(InvalidNumber, value, accepts_links, history, value, "no", None, None, prices="no")

    def test_no_line(self):
        history = History([Version([]), Version(["a", "b"], parents=[0])])
        for number, size in [(0, 0), (1, 2)]:
            for value in no_indices(size):
                self.assert_refused(InvalidNumber, value, link_paper, Study(history), number, value)
                self.assert_refused(InvalidNumber, value, accepts_links, history, number, value, None, None, prices="no")

    def test_no_prices(self):
        for value in NO_PRICES:
            self.assert_refused(InvalidPrices, value, accepts_links, the_history(), 2, 0, None, None, prices=value)
            self.assert_refused(InvalidPrices, value, accepts_links, the_history(), 2, 0, RUDE, RUDE, prices=value)
