"""Papers for the origins of a line (points 13 and 3 (i), and originpapers.py)."""

import random

from lineorigins import originpapers
from lineorigins.cheapest import ahead, behind, possible_links
from lineorigins.errors import InvalidNumber, InvalidPrices
from lineorigins.histories import History, Version
from lineorigins.originpapers import accepts_origins, origin_paper
from lineorigins.origins import chains, origins
from lineorigins.prices import Prices
from lineorigins.ratios import Ratio
from lineorigins.studies import Study
from tests.checking import Checker, accepts_origins as accepts_by_conditions, changed
from tests.examples import run_example
from tests.listing import NEW, take
from tests.samples import HALF, long_studies, samples, the_history, the_study
from tests.support import AGREEABLE, RUDE, Case, digits, no_indices
from tests.test_papers import ANY_OBJECTS, NO_PRICES, put

EXAMPLE = """
>>> from lineorigins.histories import History, Version
>>> from lineorigins.ratios import Ratio
>>> from lineorigins.prices import Prices
>>> from lineorigins.studies import Study
>>> from lineorigins.originpapers import accepts_origins, origin_paper
>>> history = History([Version(['a', 'b']), Version(['b', 'a'], parents=[0], author='ann'), Version(['a'], parents=[1])])
>>> study = Study(history, prices=Prices(piece=Ratio(1, 2)))
>>> paper = origin_paper(study, 2, 0)
>>> [len(paper), paper[0][0], paper[0][4], accepts_origins(history, 2, 0, ((0, 0),), paper, prices=study.prices)]
[3, 2, ((0, ((0, 0), (1, 1))),), True]
"""


class TestListed(Case):

    def test_the_paper_of_the_program(self):
        for study, listing in samples():
            for place in listing.places:
                paper = origin_paper(study, *place)
                found = accepts_origins(study.history, *place, origins(study, *place), paper, prices=study.prices)
                self.assertIs(found, True)
                self.check_contents(study, listing, paper, listing.chains()[place] if listing.count_whole() < 50
                                    else set(chains(study, *place)))

    def check_contents(self, study, listing, paper, possible):
        """Entries for exactly the versions, rows for exactly the lines, that possible chains come to."""
        reached = sorted({place for chain in possible for place in chain})
        self.assertIs(type(paper), tuple)
        self.assertEqual([entry[0] for entry in paper], sorted({number for number, _ in reached}, reverse=True))
        for number, telling, prices_ahead, prices_behind, rows in paper:
            self.assert_same(telling, listing.tellings[number][0])
            self.assertEqual([prices_ahead, prices_behind], [ahead(study, number), behind(study, number)])
            self.assertEqual({Ratio}, {type(bound) for bound in prices_ahead + prices_behind})
            self.assert_same(rows, tuple([(index, possible_links(study, number, index))
                                          for version, index in reached if version == number]))

    def test_changed_papers(self):
        """The answers beside a checker that goes through all conditions."""
        source = random.Random(13)
        accepted = refused = 0
        for study, listing in samples()[::3]:
            checkers = [Checker(listing, number) for number in range(len(listing.texts))]
            for place in listing.places:
                right = origins(study, *place)
                for _ in range(12):
                    paper, claim = origin_paper(study, *place), right
                    for _ in range(source.choice([1, 1, 2])):
                        paper = changed(paper, source)
                    if source.random() < 0.2:
                        claim = changed(claim, source)
                    found = accepts_origins(study.history, *place, claim, paper, prices=study.prices)
                    self.assertIs(found, accepts_by_conditions(checkers, *place, claim, paper), (claim, paper))
                    accepted, refused = accepted + found, refused + (not found)
                    if found:
                        self.assertLessEqual(set(right), set(claim))
        self.assertGreater(accepted, 150)
        self.assertGreater(refused, 1500)

    def test_false_claims(self):
        """No possible origin can be missing, and no other one be added, with the paper of the program."""
        for study, listing in samples():
            for place in listing.places:
                paper, right = origin_paper(study, *place), origins(study, *place)
                for other in listing.places:
                    claim = tuple(sorted({*right} ^ {other}))
                    found = accepts_origins(study.history, *place, claim, paper, prices=study.prices)
                    self.assertIs(found, False)


class TestConditions(Case):
    """Each condition broken alone, for the paper of a line with two links and one origin."""

    def setUp(self):
        self.history = the_history()
        self.prices = Prices(piece=HALF)
        self.one = (Ratio(0), HALF)
        self.two = (Ratio(0), HALF, Ratio(1))
        self.paper = (
            (2, (take(0, 0, 1),), self.one, self.one[::-1], ((0, ((0, 0), (1, 1))),)),
            (1, (take(0, 1, 1), take(0, 0, 1)), self.two, self.two[::-1], ((1, ((0, 0),)),)),
            (0, (NEW, NEW), (Ratio(0), Ratio(1), Ratio(2)), (Ratio(2), Ratio(1), Ratio(0)), ((0, (None,)),)))
        self.origins = ((0, 0),)

    def answer(self, paper, claim=None, place=(2, 0), history=None, prices=None):
        found = accepts_origins(history or self.history, *place, self.origins if claim is None else claim, paper,
                                prices=prices or self.prices)
        self.assertIs(type(found), bool)
        return found

    def with_part(self, entry, at, value):
        """The paper with another part of an entry."""
        return put(self.paper, entry, put(self.paper[entry], at, value))

    def test_right(self):
        self.assertTrue(self.answer(self.paper))
        self.assertEqual(origin_paper(the_study(), 2, 0), self.paper)

    def test_claimed_origins(self):
        for claim in [(), ((0, 0), (0, 1)), ((0, 1),), ((0, 0), (0, 0)), ((0, 0), (1, 1)), ((0, 0), (2, 0)), [(0, 0)],
                      ([0, 0],), ((False, 0),), ((0, False),), ((0, 0, 0),), ((0,),), (0, 0), ((0, 0), (0, 2)),
                      ((0, 0), (3, 0)), ((-1, 0), (0, 0)), ((0, 0), (9, 9)), ((0, 0), None), (None, (0, 0)), (None,),
                      ((0, Ratio(0)),), ((0, 0), (digits(200), 0)), ((0, 0), (0, digits(200)))]:
            self.assertFalse(self.answer(self.paper, claim=claim))

    def test_claims_of_any_kind(self):
        for value in ANY_OBJECTS:
            found = accepts_origins(self.history, 2, 0, value, self.paper, prices=self.prices)
            self.assertIs(found, False)
            self.assertIs(accepts_origins(self.history, 2, 0, value, value), False)

    def test_origins_out_of_order(self):
        study = Study(History([Version(["a"]), Version(["a"], parents=[0])]))
        paper = origin_paper(study, 1, 0)
        for claim, wanted in [(((0, 0), (1, 0)), True), (((1, 0), (0, 0)), False), (((0, 0),), False),
                              (((1, 0),), False), (((0, 0), (1, 0), (1, 0)), False)]:
            self.assertIs(accepts_origins(study.history, 1, 0, claim, paper), wanted)

    def test_entries(self):
        one, two, three = self.paper
        for paper in [(), (one,), (one, two), (two, three), (one, three), (one, three, two), (three, two, one),
                      (two, one, three), (one, one, two, three), (one, two, two, three), (one, two, three, three),
                      (one, two, three, None), (one, two, list(three)), [one, two, three], (one, two, three[:4]),
                      (one, two, three + (None,)), (one, two, three[:4] + ([],)), (one,) * 3,
                      (None,) + self.paper, (RUDE,), (AGREEABLE,) * 3, one, (one, two, ()), (one, two, three, RUDE),
                      (one, two, (AGREEABLE,) * 5), (one, two, (RUDE,) * 5)]:
            self.assertFalse(self.answer(paper))
        for number in [True, False, None, 1, 3, -1, digits(200), Ratio(2), "2", RUDE, AGREEABLE, 2.0, (2,)]:
            self.assertFalse(self.answer(self.with_part(0, 0, number)))
        for number in [True, 2, 0]:
            self.assertFalse(self.answer(self.with_part(1, 0, number)))
        self.assertFalse(self.answer(self.with_part(2, 0, False)))

    def test_entries_and_rows_that_are_not_needed(self):
        one, two, three = self.paper
        more = put(two, 4, ((0, ((0, 1),)), (1, ((0, 0),))))
        # The new row's link needs a row, and that one's new line an origin.
        rows = ((0, (None,)), (1, (None,)))
        self.assertFalse(self.answer((one, more, three)))
        self.assertFalse(self.answer((one, more, put(three, 4, rows))))
        self.assertTrue(self.answer((one, more, put(three, 4, rows)), claim=((0, 0), (0, 1))))
        self.assertTrue(self.answer((one, two, put(three, 4, rows)), claim=((0, 0), (0, 1))))
        self.assertFalse(self.answer((one, two, put(three, 4, rows))))
        # For the line of version 1 the entry of version 2 is not needed, with its rows or without.
        self.assertTrue(self.answer(self.paper, place=(1, 1)))
        self.assertTrue(self.answer((put(one, 4, ()), two, three), place=(1, 1)))
        self.assertTrue(self.answer((two, three), place=(1, 1)))
        # What is not needed must hold, too.
        self.assertFalse(self.answer((put(one, 3, self.one), two, three), place=(1, 1)))
        self.assertFalse(self.answer((put(one, 4, ((0, ((0, 0),)),)), two, three), place=(1, 1)))
        self.assertFalse(self.answer((put(one, 1, (NEW, NEW)), two, three), place=(1, 1)))

    def test_links_that_are_not_possible_may_be_claimed(self):
        rows = ((0, (None, (0, 0), (1, 1))),)
        self.assertFalse(self.answer(self.with_part(0, 4, rows)))
        self.assertTrue(self.answer(self.with_part(0, 4, rows), claim=((0, 0), (2, 0))))
        # Even a line that is not alike can be claimed, if it has a row.
        rows = ((0, ((0, 0), (1, 0), (1, 1))),)
        self.assertFalse(self.answer(self.with_part(0, 4, rows)))
        paper = put(self.with_part(0, 4, rows), 1, put(self.paper[1], 4, ((0, ((0, 1),)), (1, ((0, 0),)))))
        paper = put(paper, 2, put(paper[2], 4, ((0, (None,)), (1, (None,)))))
        self.assertTrue(self.answer(paper, claim=((0, 0), (0, 1))))
        self.assertFalse(self.answer(paper))

    def test_rows(self):
        right = self.paper[0][4]
        for rows in [(), right + right, ((0, ((0, 0),)),), ((0, ((1, 1),)),), ((0, ((1, 1), (0, 0))),), ((0, ()),),
                     ((0, ((0, 0), (0, 0), (1, 1))),), list(right), (list(right[0]),), ((0, [(0, 0), (1, 1)]),),
                     ((0, ((0, 0), [1, 1])),), ((False, right[0][1]),), ((1, right[0][1]),), ((-1, right[0][1]),),
                     right + ((1, (None,)),), right + ((None, (None,)),), ((0,) + right[0],), ((0,),), None, RUDE, right[0],
                     (RUDE,), (AGREEABLE,), ((RUDE, right[0][1]),), ((0, RUDE),), ((0, (RUDE,)),), ((0, AGREEABLE),),
                     ((0, ((0, 0), (1, True))),), ((0, ((False, 0), (1, 1))),), ((0, ((0, 0), (1, 1), (2, 0))),),
                     ((0, ((0, 0), (0, 2), (1, 1))),), ((0, ((0, 0), (1, 1), (1, 2))),),
                     ((0, ((0, 0), (1, 1), (3, 0))),), ((0, ((0, 0), (1, 1), None)),), ((0, ((0, 0), (1,))),),
                     ((digits(200), right[0][1]),), ((0, ((0, 0), (1, 1), (digits(200), 0))),)]:
            self.assertFalse(self.answer(self.with_part(0, 4, rows)))

    def test_rows_out_of_order(self):
        three = self.paper[2]
        for rows, wanted in [(((0, (None,)), (1, (None,))), True), (((1, (None,)), (0, (None,))), False),
                             (((0, (None,)), (0, (None,)), (1, (None,))), False),
                             (((0, (None,)), (1, (None,)), (1, (None,))), False)]:
            paper = self.paper[:2] + (put(three, 4, rows),)
            self.assertIs(self.answer(paper, claim=((0, 0), (0, 1))), wanted)

    def test_links_to_versions_that_are_no_ancestors(self):
        history = History([Version(["a"]), Version(["a"]), Version(["a"], parents=[1])])
        study = Study(history, prices=self.prices)
        two, one = origin_paper(study, 2, 0)
        zero = origin_paper(study, 0, 0)[0]
        self.assertTrue(self.answer((two, one), claim=((1, 0),), history=history))
        more = put(two, 4, ((0, ((0, 0), (1, 0))),))
        self.assertFalse(self.answer((more, one, zero), claim=((0, 0), (1, 0)), history=history))

    def test_tellings(self):
        for telling in [(NEW,), (), None, (take(1, 0, 1),), (take(0, 0, 1), NEW), [take(0, 0, 1)], ("take", 0, 0, 1),
                        (("take", False, 0, 1),), RUDE, (AGREEABLE,), AGREEABLE]:
            self.assertFalse(self.answer(self.with_part(0, 1, telling)))
        self.assertTrue(self.answer(self.with_part(0, 1, (take(1, 1, 1),))))

    def test_a_telling_that_is_dearer(self):
        """Then ahead and behind show nothing of the links that it leaves out."""
        one, two, three = self.paper
        dear = put(one, 1, (NEW,))
        self.assertFalse(self.answer((dear, two, three)))
        for at, bounds in [(2, (Ratio(0), Ratio(1))), (3, (Ratio(1), Ratio(0)))]:
            self.assertFalse(self.answer((put(dear, at, bounds), two, three)))
        rows = ((0, (None, (0, 0), (1, 1))),)
        self.assertTrue(self.answer((put(dear, 4, rows), two, three), claim=((0, 0), (2, 0))))

    def test_ahead_may_be_lower_at_the_end(self):
        self.assertTrue(self.answer(self.with_part(0, 2, (Ratio(0), Ratio(1, 3)))))
        self.assertTrue(self.answer(self.with_part(0, 2, (Ratio(0), Ratio(-5)))))
        self.assertTrue(self.answer(self.with_part(2, 2, (Ratio(0), Ratio(1), Ratio(0)))))
        self.assertTrue(self.answer(self.with_part(1, 2, (Ratio(0), HALF, Ratio(0)))))

    def test_ahead(self):
        for entry, at in [(0, 0), (0, 1), (1, 0), (1, 1), (1, 2), (2, 0), (2, 1), (2, 2)]:
            bounds = self.paper[entry][2]
            higher = put(bounds, at, bounds[at] + Ratio(1, 1000))
            self.assertFalse(self.answer(self.with_part(entry, 2, higher)))
        for entry in range(3):
            lower = put(self.paper[entry][2], 0, Ratio(-1, 1000))
            self.assertFalse(self.answer(self.with_part(entry, 2, lower)))
        for entry in [1, 2]:
            bounds = self.paper[entry][2]
            self.assertFalse(self.answer(self.with_part(entry, 2, put(bounds, 1, bounds[1] - Ratio(1, 1000)))))

    def test_behind(self):
        for entry, at in [(0, 0), (0, 1), (1, 0), (1, 1), (1, 2), (2, 0), (2, 1), (2, 2)]:
            bounds = self.paper[entry][3]
            higher = put(bounds, at, bounds[at] + Ratio(1, 1000))
            self.assertFalse(self.answer(self.with_part(entry, 3, higher)))
        for entry in range(3):
            lower = put(self.paper[entry][3], -1 + len(self.paper[entry][3]), Ratio(-1, 1000))
            self.assertFalse(self.answer(self.with_part(entry, 3, lower)))
        # The new line of version 0 is possible, whatever is behind it.
        self.assertTrue(self.answer(self.with_part(2, 3, (Ratio(-9), Ratio(-9), Ratio(0)))))

    def test_bounds_that_are_too_low(self):
        """The links left out must be shown to be dearer."""
        history = History([Version(["a"]), Version(["x", "a"], parents=[0])])
        study = Study(history, prices=Prices(piece=3))
        paper = origin_paper(study, 1, 1)
        self.assertEqual(len(paper), 1)
        for low in [Ratio(1), HALF, Ratio(-1, 2), Ratio(-1), Ratio(-2)]:
            entry = put(paper[0], 2, (Ratio(0), low, low))
            found = self.answer((entry,), claim=((1, 1),), place=(1, 1), history=history, prices=study.prices)
            self.assertIs(found, low + 3 > 2)
            # Nothing is behind the line: what is put behind the points before it shows nothing here.
            entry = put(paper[0], 3, (low, low, Ratio(0)))
            self.assertTrue(self.answer((entry,), claim=((1, 1),), place=(1, 1), history=history, prices=study.prices))

    def test_kinds_of_bounds(self):
        for at in [2, 3]:
            row = self.paper[1][at]
            for value in [row[:-1], row + row[-1:], (Ratio(0),) + row, list(row), None, (), RUDE, AGREEABLE, row[0]]:
                self.assertFalse(self.answer(self.with_part(1, at, value)))
            for point in range(3):
                for value in [0, 1, None, True, "0", RUDE, AGREEABLE]:
                    self.assertFalse(self.answer(self.with_part(1, at, put(row, point, value))))

    def test_papers_of_any_kind(self):
        for value in ANY_OBJECTS:
            found = accepts_origins(self.history, 2, 0, self.origins, value, prices=self.prices)
            self.assertIs(found, False)

    def test_another_line_or_prices(self):
        self.assertFalse(self.answer(self.paper, place=(1, 0)))
        self.assertFalse(self.answer(self.paper, place=(0, 1)))
        self.assertFalse(self.answer(self.paper, prices=Prices()))
        self.assertFalse(self.answer(self.paper, prices=Prices(piece=HALF, least=2)))
        self.assertFalse(accepts_origins(self.history, 2, 0, self.origins, self.paper))
        self.assertFalse(self.answer(self.paper, history=self.history.amended(0, ["b", "a"])))
        self.assertTrue(self.answer(self.paper, place=(0, 0)))

    def test_versions_without_lines(self):
        empty = (0, (), (Ratio(0),), (Ratio(0),), ())
        history = History([Version([]), Version(["a"])])
        one = origin_paper(Study(history), 1, 0)[0]
        ask = [history, 1, 0, ((1, 0),)]
        self.assertTrue(accepts_origins(*ask, (one, empty)))
        self.assertTrue(accepts_origins(*ask, (one,)))
        for at, value in [(1, (NEW,)), (2, (Ratio(-1),)), (3, (Ratio(1),)), (3, ()), (4, ((0, (None,)),))]:
            self.assertFalse(accepts_origins(*ask, (one, put(empty, at, value))))

    def test_long(self):
        for study in long_studies():
            for place in [(9, 0), (6, 3), (0, 1)]:
                paper, right = origin_paper(study, *place), origins(study, *place)
                ask = [study.history, *place]
                self.assertTrue(accepts_origins(*ask, right, paper, prices=study.prices))
                for at in range(len(right)):
                    self.assertFalse(accepts_origins(*ask, right[:at] + right[at + 1:], paper, prices=study.prices))

    def test_large_numbers(self):
        prices = Prices(piece=Ratio(1, digits(200)), far=Ratio(digits(200), digits(199)))
        study = Study(the_history(), prices=prices)
        paper = origin_paper(study, 2, 0)
        self.assertTrue(accepts_origins(the_history(), 2, 0, ((0, 0),), paper, prices=prices))

    def test_by_name(self):
        study = the_study()
        paper = origin_paper(index=0, number=2, study=study)
        self.assertTrue(accepts_origins(prices=study.prices, value=paper, origins=((0, 0),), index=0, number=2,
                                        history=study.history))
        with self.assertRaises(TypeError):
            accepts_origins(study.history, 2, 0, ((0, 0),), paper, study.prices)
        for ask in [origin_paper, accepts_origins]:
            self.assertEqual(ask.__module__, originpapers.__name__)
        study = Study(the_history())
        self.assertTrue(accepts_origins(study.history, 1, 1, ((0, 0), (1, 1)), origin_paper(study, 1, 1), prices=None))


class TestWrongValues(Case):

    def test_example(self):
        self.assertEqual(*run_example(EXAMPLE))

    def test_no_version(self):
        for history in [the_history(), History()]:
            for value in no_indices(len(history)):
                self.assert_refused(InvalidNumber, value, origin_paper, Study(history), value, 0)
                self.assert_refused(InvalidNumber, value, accepts_origins, history, value, "no", None, None, prices="no")

    def test_no_line(self):
        history = History([Version([]), Version(["a", "b"], parents=[0])])
        for number, size in [(0, 0), (1, 2)]:
            for value in no_indices(size):
                self.assert_refused(InvalidNumber, value, origin_paper, Study(history), number, value)
                self.assert_refused(InvalidNumber, value, accepts_origins, history, number, value, None, None, prices="no")

    def test_no_prices(self):
        for value in NO_PRICES:
            self.assert_refused(InvalidPrices, value, accepts_origins, the_history(), 2, 0, None, None, prices=value)
            self.assert_refused(InvalidPrices, value, accepts_origins, the_history(), 2, 0, RUDE, RUDE, prices=value)
