"""Chains, origins and last touches (points 12 and 3 (a), (b), and origins.py)."""

import itertools

from lineorigins import origins as module
from lineorigins.cheapest import cheapest_tellings, possible_links, telling_with
from lineorigins.errors import InvalidLine, InvalidNumber
from lineorigins.histories import History, Version
from lineorigins.origins import LineAt, chain_to, chains, count_chains, lines_at, origins, told_by, touches
from lineorigins.prices import Prices
from lineorigins.ratios import Ratio
from lineorigins.studies import Study
from tests.examples import run_example
from tests.listing import NEW, take
from tests.samples import FOLDED, HALF, long_studies, merged_history, samples, the_history, the_study
from tests.support import AGREEABLE, NO_LISTINGS, NO_WHOLE_NUMBERS, RUDE, Case, digits, no_indices

EXAMPLE = """
>>> from lineorigins.histories import History, Version
>>> from lineorigins.ratios import Ratio
>>> from lineorigins.prices import Prices
>>> from lineorigins.studies import Study
>>> from lineorigins.origins import LineAt, chains, origins
>>> history = History([Version(['a', 'b']), Version(['b', 'a'], parents=[0], author='ann'), Version(['a'], parents=[1])])
>>> study = Study(history, prices=Prices(piece=Ratio(1, 2)))
>>> [origins(study, 2, 0), list(chains(study, 2, 0)), LineAt(study, 2, 0).is_sure]
[((0, 0),), [((2, 0), (0, 0)), ((2, 0), (1, 1), (0, 0))], True]
"""
PROPERTIES = ["place", "text", "links", "origins", "touches", "is_sure", "author"]


class TestListed(Case):
    """The answers beside all tellings of the whole history."""

    def test_chains(self):
        for study, listing in samples():
            for place, wanted in listing.chains().items():
                self.assert_same(list(chains(study, *place)), sorted(wanted))
                self.assert_same(count_chains(study, *place), len(wanted))

    def test_origins(self):
        for study, listing in samples():
            for place, wanted in listing.chains().items():
                self.assert_same(origins(study, *place), tuple(sorted({chain[-1] for chain in wanted})))

    def test_touches(self):
        several = 0
        for study, listing in samples():
            for place, wanted in listing.chains().items():
                found = tuple(sorted({listing.touch(chain) for chain in wanted}))
                self.assert_same(touches(study, *place), found)
                several += len(found) > 1 and found != origins(study, *place)
        self.assertGreater(several, 10)

    def test_chains_to_each_origin(self):
        for study, listing in samples():
            for place, wanted in listing.chains().items():
                for origin in itertools.product(range(7), range(5)):
                    ending = sorted([chain for chain in wanted if chain[-1] == origin])
                    self.assert_same(chain_to(study, *place, origin), ending[0] if ending else None)

    def test_tellings_of_the_whole_history(self):
        for study, listing in samples():
            for place, wanted in listing.chains().items():
                for chain in wanted:
                    told = told_by(study, chain)
                    self.assertIs(type(told), tuple)
                    links = [dict(zip(tellings, links))[telling] for telling, tellings, links
                             in zip(told, listing.tellings, listing.links)]
                    self.assertEqual(listing.chain(links, place), chain)
                    nexts = dict(zip([number for number, _ in chain], [*chain[1:], None]))
                    indices = dict(chain)
                    for number, telling in enumerate(told):
                        if number in nexts:
                            first = telling_with(study, number, indices[number], nexts[number])
                        else:
                            first = listing.tellings[number][0]
                        self.assert_same(telling, first)

    def test_no_other_chain(self):
        for study, listing in samples()[::5]:
            possible = listing.chains()
            for one, other in itertools.product(listing.places, repeat=2):
                for chain in [(one,), (one, other), (one, other, other)]:
                    if chain not in possible[one]:
                        self.assert_refused(InvalidLine, chain, told_by, study, chain)
            for wanted in possible.values():
                for chain in wanted:
                    for wrong in [chain[:-1], chain[::-1], chain + chain[-1:], chain + ((0, 0),)]:
                        if len(wrong) == 0 or wrong not in possible[wrong[0]]:
                            self.assert_refused(InvalidLine, wrong, told_by, study, wrong)

    def test_lines(self):
        for study, listing in samples():
            for number, text in enumerate(listing.texts):
                found = list(lines_at(study, number))
                self.assertEqual([type(line) for line in found], [LineAt] * len(text))
                for index, line in enumerate(found):
                    self.check_line(study, listing, line, (number, index))
                    self.check_line(study, listing, LineAt(study, number, index), (number, index))

    def check_line(self, study, listing, line, place):
        self.assert_same(line.place, place)
        self.assert_same(line.text, listing.texts[place[0]][place[1]])
        self.assert_same(line.links, possible_links(study, *place))
        self.assert_same(line.origins, origins(study, *place))
        self.assert_same(line.touches, touches(study, *place))
        self.assert_same(line.is_sure, len(line.origins) == 1)
        authors = {listing.authors[number] for number, _ in line.origins}
        self.assert_same(line.author, authors.pop() if len(authors) == 1 else None)


class TestEdges(Case):

    def test_example(self):
        self.assertEqual(*run_example(EXAMPLE))

    def test_a_line_without_a_possible_piece(self):
        study = the_study()
        self.assert_same(list(chains(study, 0, 1)), [((0, 1),)])
        self.assert_same(origins(study, 0, 1), ((0, 1),))
        self.assert_same(touches(study, 0, 1), ((0, 1),))
        self.assert_same(chain_to(study, 0, 1, (0, 1)), ((0, 1),))
        self.assert_same(told_by(study, ((0, 1),)),
                         ((NEW, NEW), (take(0, 1, 1), take(0, 0, 1)), (take(0, 0, 1),)))

    def test_version_without_lines(self):
        study = Study(History([Version([]), Version([], parents=[0])]))
        self.assert_same(list(lines_at(study, 1)), [])

    def test_origins_that_are_none(self):
        study = the_study()
        for origin in [(1, 0), (1, 1), (2, 0), (0, 1), (0, 2), (3, 0), (0, 10 ** 199), (10 ** 199, 0), (9, 9)]:
            self.assertIsNone(chain_to(study, 2, 0, origin))
        self.assert_same(chain_to(study, 2, 0, (0, 0)), ((2, 0), (0, 0)))

    def test_last_touch(self):
        """The line is touched where it is laid out differently, even if it goes on to an older origin."""
        history = History([Version(["a"]), Version([" A"], parents=[0]), Version([" A"], parents=[1]),
                           Version(["a"], parents=[2])])
        prices = Prices(piece=HALF, far=1, layout=FOLDED)
        study = Study(history, prices=prices)
        self.assert_same([touches(study, number, 0) for number in range(4)],
                         [((0, 0),), ((1, 0),), ((1, 0),), ((3, 0),)])
        self.assert_same([origins(study, number, 0) for number in range(4)], [((0, 0),)] * 4)

    def test_a_chain_that_ends_before_another_one_comes_first(self):
        study = Study(History([Version(["a"]), Version(["a"], parents=[0]), Version(["a"], parents=[0, 1])]))
        self.assert_same(list(chains(study, 2, 0)),
                         [((2, 0),), ((2, 0), (0, 0)), ((2, 0), (1, 0)), ((2, 0), (1, 0), (0, 0))])
        self.assert_same(chain_to(study, 2, 0, (0, 0)), ((2, 0), (0, 0)))
        self.assert_same(chain_to(study, 2, 0, (1, 0)), ((2, 0), (1, 0)))
        self.assert_same(chain_to(study, 2, 0, (2, 0)), ((2, 0),))

    def test_many_chains(self):
        for study in long_studies():
            for place in [(9, 0), (9, 5), (7, 2), (0, 0)]:
                self.check_long(study, place)
        self.assertEqual(count_chains(long_studies()[0], 9, 4), 2 ** 8)
        # Each of the six equal lines of a version can come from each one of all versions before.
        self.assertEqual(count_chains(long_studies()[-1], 9, 4), 7 ** 9)
        self.assertEqual(len(origins(long_studies()[-1], 9, 4)), 9 * 6 + 1)

    def check_long(self, study, place):
        count = count_chains(study, *place)
        found = list(itertools.islice(chains(study, *place), 50))
        self.assertEqual(len(found), min(count, 50))
        self.assertEqual(found, sorted(set(found)))
        places = origins(study, *place)
        self.assertEqual(places, tuple(sorted(places)))
        for chain in found[:3] + [chain_to(study, *place, origin) for origin in places]:
            self.assertEqual(chain[0], place)
            self.assertIn(chain[-1], places)
            told = told_by(study, chain)
            self.assertEqual(len(told), 10)
            for one, following in zip(chain, [*chain[1:], None]):
                self.assertIn(following, possible_links(study, *one))
                self.assertEqual(told[one[0]], telling_with(study, *one, following))
        for touch in touches(study, *place):
            self.assertEqual(LineAt(study, *touch).text, LineAt(study, *place).text)

    def test_told_by_takes_first_tellings_elsewhere(self):
        study = Study(merged_history(), prices=Prices(piece=HALF))
        chain = next(chains(study, 3, 2))
        told = told_by(study, chain)
        firsts = [next(cheapest_tellings(study, number)) for number in range(6)]
        away = [number for number in range(6) if number not in [one for one, _ in chain]]
        self.assertEqual([told[number] for number in away], [firsts[number] for number in away])

    def test_equality(self):
        line = LineAt(the_study(), 2, 0)
        self.assert_equal_objects(line, LineAt(the_study(), 2, 0))
        self.assert_equal_objects(line, list(lines_at(the_study(), 2))[0])
        self.assert_unequal(line, LineAt(the_study(), 1, 0))
        self.assert_unequal(LineAt(the_study(), 1, 1), LineAt(the_study(), 1, 0))
        self.assert_unequal(line, LineAt(Study(the_history()), 2, 0))
        self.assert_unequal(line, LineAt(Study(the_history(), prices=Prices(piece=Ratio(1, 3))), 2, 0))
        for value in [None, (2, 0), "a", ((0, 0), (1, 1)), AGREEABLE, object(), LineAt]:
            self.assert_unequal(line, value)

    def test_properties(self):
        line = LineAt(index=1, number=1, study=the_study())
        self.assert_fixed(line, *PROPERTIES)
        self.assert_own_methods(LineAt, "__init__", "__eq__", *PROPERTIES)
        self.assertEqual([line.place, line.text, line.author], [(1, 1), "a", "anon"])

    def test_by_name(self):
        study, chain = the_study(), ((2, 0), (0, 0))
        for ask in [origins, touches, count_chains]:
            self.assertEqual(ask(index=0, number=2, study=study), ask(study, 2, 0))
        self.assertEqual(next(chains(index=0, number=2, study=study)), chain)
        self.assertEqual(chain_to(origin=(0, 0), index=0, number=2, study=study), chain)
        self.assertEqual(told_by(chain=chain, study=study), told_by(study, chain))
        self.assertEqual(list(lines_at(number=2, study=study)), [LineAt(study, 2, 0)])
        for ask in [origins, touches, chains, count_chains, chain_to, told_by, LineAt, lines_at]:
            self.assertEqual(ask.__module__, module.__name__)


class TestWrongValues(Case):

    def asks(self):
        return [origins, touches, count_chains, LineAt, lambda *args: chain_to(*args, (0, 0))]

    def test_no_version(self):
        for history in [the_history(), History()]:
            study = Study(history)
            for value in no_indices(len(history)):
                for ask in self.asks():
                    self.assert_refused(InvalidNumber, value, ask, study, value, 0)
                    self.assert_refused(InvalidNumber, value, ask, study, value, "no")
                self.assert_refused_late(InvalidNumber, value, chains, study, value, 0)
                self.assert_refused_late(InvalidNumber, value, chains, study, value, "no")
                self.assert_refused_late(InvalidNumber, value, lines_at, study, value)

    def test_no_line(self):
        study = Study(History([Version([]), Version(["a", "b"], parents=[0])]))
        for number, size in [(0, 0), (1, 2)]:
            for value in no_indices(size):
                for ask in self.asks():
                    self.assert_refused(InvalidNumber, value, ask, study, number, value)
                self.assert_refused_late(InvalidNumber, value, chains, study, number, value)

    def test_no_chain(self):
        study = the_study()
        right = ((2, 0), (1, 1), (0, 0))
        told_by(study, right)
        for value in [*NO_LISTINGS, [], (), list(right), right[:2], right[1:][::-1], right[0], ((2, 0), (1, 1), (0, 1)),
                      ((2, 0), (1, 0), (0, 1)), ((2, 0),), right + (None,), right + ((0, 0),), (None,), (RUDE,),
                      (AGREEABLE,) * 3, ((2, 0), AGREEABLE), ((2, 0), (RUDE, 0)), ((2, False), (1, 1), (0, 0)),
                      ((2, 0), (True, 1), (0, 0)), ((2, 0), (1, True), (0, 0)), ((2, 0), (1, 1), (False, 0)),
                      ((2, 0), [1, 1], (0, 0)), ((2, 0), (1, 1, 0), (0, 0)), ((2, 0), (1,), (0, 0)), ((-1, 0),),
                      ((3, 0),), ((0, 2),), ((0, digits(200)),), ((digits(200), 0),), ((0, -1),), (Ratio(0),),
                      ((0, Ratio(0)),)]:
            self.assert_refused(InvalidLine, value, told_by, study, value)
            self.assert_refused(InvalidLine, value, told_by, chain=value, study=study)
        for value in NO_WHOLE_NUMBERS:
            chain = ((2, value), (0, 0))
            self.assert_refused(InvalidLine, chain, told_by, study, chain)
        chain = ((0, 0),)
        self.assert_refused(InvalidLine, chain, told_by, Study(History()), chain)
