"""Two lines at once (points 14 and 3 (c), (d), (j), and pairs.py)."""

import itertools
import random

from lineorigins import pairs as module
from lineorigins.cheapest import possible_links
from lineorigins.errors import InvalidLine, InvalidNumber
from lineorigins.histories import History, Version
from lineorigins.origins import count_chains, origins
from lineorigins.pairs import authors, chains_together, links_together, origins_together, relation
from lineorigins.prices import Prices
from lineorigins.ratios import Ratio
from lineorigins.studies import Study
from tests.examples import run_example
from tests.listing import in_order
from tests.samples import long_studies, samples, the_history, the_study
from tests.support import AGREEABLE, NO_LISTINGS, NO_WHOLE_NUMBERS, RUDE, Case, digits, no_indices

EXAMPLE = """
>>> from lineorigins.histories import History, Version
>>> from lineorigins.ratios import Ratio
>>> from lineorigins.prices import Prices
>>> from lineorigins.studies import Study
>>> from lineorigins.pairs import links_together, relation
>>> history = History([Version(['a', 'b']), Version(['b', 'a'], parents=[0], author='ann'), Version(['a'], parents=[1])])
>>> study = Study(history, prices=Prices(piece=Ratio(1, 2)))
>>> [relation(study, (1, 1), (2, 0)), relation(study, (1, 0), (2, 0)), links_together(study, (1, 0), (1, 1))]
['surely', 'never', (((0, 1), (0, 0)),)]
"""
OF_PAIRS = [links_together, origins_together, relation,
            lambda study, first, second: chains_together(study, first, second, ((0, 0), (0, 0)))]
# Values that are no places in a history of three versions with two, two and one lines.
NO_PLACES = [*NO_LISTINGS, [], (), [0, 0], (0,), (0, 0, 0), (0, 2), (2, 1), (3, 0), (-1, 0), (0, -1), (0, digits(200)),
             (digits(200), 0), (False, 0), (0, False), (True, True), (Ratio(0), 0), (0, Ratio(0)), ((0, 0),),
             ((0, 0), (0, 0)), (RUDE, 0), (0, RUDE), (AGREEABLE, AGREEABLE), *[(value, 0) for value in NO_WHOLE_NUMBERS],
             *[(0, value) for value in NO_WHOLE_NUMBERS]]


def wanted_relation(found):
    same = [one == other for one, other in found]
    return "surely" if all(same) else "perhaps" if any(same) else "never"


class TestListed(Case):
    """The answers beside all tellings of the whole history."""

    def chains_of_two(self, listing):
        """For each two lines, in both orders, the set of the pairs of chains that they have at once."""
        found = {pair: set() for pair in itertools.product(listing.places, repeat=2)}
        for links in listing.whole():
            chains = {place: listing.chain(links, place) for place in listing.places}
            for one, other in found:
                found[one, other].add((chains[one], chains[other]))
        return found

    def test_links(self):
        several = 0
        for study, listing in samples():
            for (number, index), (another, other) in itertools.product(listing.places, repeat=2):
                if number == another:
                    wanted = in_order([(links[index], links[other]) for links in listing.links[number]])
                    self.assert_same(links_together(study, (number, index), (number, other)), wanted)
                    alone = len(possible_links(study, number, index)) * len(possible_links(study, number, other))
                    several += index != other and 1 < len(wanted) < alone
        self.assertGreater(several, 100)

    def test_origins_relations_and_chains(self):
        relations = []
        for study, listing in samples()[::2]:
            for (one, other), possible in self.chains_of_two(listing).items():
                wanted = {(chain[-1], beside[-1]) for chain, beside in possible}
                self.assert_same(origins_together(study, one, other), tuple(sorted(wanted)))
                self.assert_same(relation(study, one, other), wanted_relation(wanted))
                relations.append(wanted_relation(wanted))
                for pair in sorted(wanted)[len(relations) % 3::3]:
                    found = chains_together(study, one, other, pair)
                    self.assertIn(found, possible)
                    self.assertEqual((found[0][-1], found[1][-1]), pair)
                    self.assertEqual({type(place) for chain in found for place in chain}, {tuple})
                    self.assertEqual({type(chain) for chain in found} | {type(found)}, {tuple})
        self.assertEqual({name for name in relations if relations.count(name) > 300}, {"surely", "perhaps", "never"})

    def test_pairs_that_no_two_chains_have(self):
        for study, listing in samples()[::12]:
            for (one, other), possible in self.chains_of_two(listing).items():
                wanted = {(chain[-1], beside[-1]) for chain, beside in possible}
                pairs = [pair for pair in itertools.product(listing.places, repeat=2) if pair not in wanted]
                for pair in pairs[len(wanted)::17]:
                    self.assertIsNone(chains_together(study, one, other, pair))

    def test_authors(self):
        for study, listing in samples():
            chains = listing.chains()
            for number, text in enumerate(listing.texts):
                found = [{listing.authors[chain[-1][0]] for chain in chains[number, index]}
                         for index in range(len(text))]
                wanted = {name: (found.count({name}), len([names for names in found if name in names]))
                          for names in found for name in names}
                self.assertEqual(authors(study, number), wanted)
                self.assertEqual({type(many) for row in authors(study, number).values() for many in row} - {int}, set())

    def test_versions_in_another_order(self):
        """The possible links and origins are those renumbered (point 3 (j))."""
        source = random.Random(5)
        moved = 0
        for study, listing in samples():
            order = self.another_order(listing, source)
            new = {old: number for number, old in enumerate(order)}
            moved += order != sorted(order)
            versions = [Version(listing.texts[old], parents=[new[parent] for parent in listing.parents[old]],
                                author=source.choice(["zed", "ann"])) for old in order]
            other = Study(History(versions), prices=study.prices)
            for old, index in listing.places:
                place = (new[old], index)
                links = [None if link is None else (new[link[0]], link[1]) for link in possible_links(study, old, index)]
                self.assert_same(possible_links(other, *place), in_order(links))
                places = [(new[origin[0]], origin[1]) for origin in origins(study, old, index)]
                self.assert_same(origins(other, *place), in_order(places))
                self.assertEqual(count_chains(other, *place), count_chains(study, old, index))
            for one, beside in zip(listing.places, source.sample(listing.places, len(listing.places))):
                there = relation(other, (new[one[0]], one[1]), (new[beside[0]], beside[1]))
                self.assertEqual(there, relation(study, one, beside))
        self.assertGreater(moved, 30)

    def another_order(self, listing, source):
        """The numbers of the versions in some order in which parents come first."""
        order = []
        while len(order) < len(listing.texts):
            free = [number for number, parents in enumerate(listing.parents)
                    if number not in order and all([parent in order for parent in parents])]
            order.append(source.choice(free))
        return order


class TestEdges(Case):

    def test_example(self):
        self.assertEqual(*run_example(EXAMPLE))

    def test_one_telling_gives_the_links_of_both(self):
        """A piece of two lines costs as much as the two new lines: both come from version 0, or none does."""
        history = History([Version(["a", "b"]), Version(["a", "b"], parents=[0])])
        study = Study(history, prices=Prices(piece=2))
        self.assert_same(links_together(study, (1, 0), (1, 1)), ((None, None), ((0, 0), (0, 1))))
        self.assert_same(links_together(study, (1, 1), (1, 0)), ((None, None), ((0, 1), (0, 0))))
        self.assert_same(origins_together(study, (1, 0), (1, 1)), (((0, 0), (0, 1)), ((1, 0), (1, 1))))

    def test_chains_that_come_to_one_version(self):
        """Lines of two versions come from version 1, where both were new or both taken from version 0."""
        history = History([
            Version(["a", "b"]), Version(["p", "q", "a", "b", "c", "d"], parents=[0]),
            Version(["p", "q", "a"], parents=[1]), Version(["b", "c", "d"], parents=[1])])
        study = Study(history, prices=Prices(piece=2))
        self.assert_same([origins(study, 2, 2), origins(study, 3, 0)], [((0, 0), (1, 2)), ((0, 1), (1, 3))])
        self.assert_same(origins_together(study, (2, 2), (3, 0)), (((0, 0), (0, 1)), ((1, 2), (1, 3))))
        self.assert_same(origins_together(study, (3, 0), (2, 2)), (((0, 1), (0, 0)), ((1, 3), (1, 2))))
        self.assert_same(chains_together(study, (2, 2), (3, 0), ((1, 2), (1, 3))),
                         (((2, 2), (1, 2)), ((3, 0), (1, 3))))
        self.assertIsNone(chains_together(study, (2, 2), (3, 0), ((1, 2), (0, 1))))

    def test_surely_the_same_line_though_its_origin_is_unsure(self):
        history = History([Version(["a"]), Version(["a", "x", "y"], parents=[0]), Version(["a", "x", "y"], parents=[1]),
                           Version(["a", "x", "y"], parents=[1])])
        study = Study(history)
        self.assert_same([origins(study, 2, 0), origins(study, 3, 0)], [((0, 0), (1, 0))] * 2)
        self.assert_same(relation(study, (2, 0), (3, 0)), "surely")
        self.assert_same(relation(study, (2, 0), (0, 0)), "perhaps")
        self.assert_same(relation(study, (2, 0), (3, 1)), "never")

    def test_the_same_line_twice(self):
        for study, listing in samples()[::8]:
            for place in listing.places:
                self.assert_same(relation(study, place, place), "surely")
                self.assert_same(origins_together(study, place, place),
                                 tuple([(origin, origin) for origin in origins(study, *place)]))
                self.assert_same(links_together(study, place, place),
                                 tuple([(link, link) for link in possible_links(study, *place)]))
                for origin in origins(study, *place):
                    one, other = chains_together(study, place, place, (origin, origin))
                    self.assertEqual(one, other)

    def test_perhaps(self):
        study = Study(the_history())
        self.assert_same(relation(study, (0, 0), (1, 1)), "perhaps")
        self.assert_same(relation(study, (0, 0), (1, 0)), "never")
        self.assert_same(origins_together(study, (1, 1), (0, 0)), (((0, 0), (0, 0)), ((1, 1), (0, 0))))
        self.assert_same(chains_together(study, (1, 1), (0, 0), ((0, 0), (0, 0))), (((1, 1), (0, 0)), ((0, 0),)))
        self.assert_same(chains_together(study, (1, 1), (0, 0), ((1, 1), (0, 0))), (((1, 1),), ((0, 0),)))

    def test_pairs_of_places_that_are_none(self):
        study = Study(the_history())
        for pair in [((0, 1), (0, 0)), ((0, 0), (0, 1)), ((0, 2), (0, 0)), ((0, 0), (0, 2)), ((3, 0), (0, 0)),
                     ((0, 0), (3, 0)), ((9, 9), (9, 9)), ((0, digits(200)), (0, 0)), ((0, 0), (digits(200), 0)),
                     ((0, 12), (0, 0)), ((0, 0), (0, 12)), ((0, 13), (0, 0)), ((10, 0), (0, 0)), ((0, 120), (0, 120))]:
            self.assertIsNone(chains_together(study, (1, 1), (0, 0), pair))
        # Both lines new are such a pair, but a thirteenth line of version 0 is not the first one of version 1.
        self.assertEqual(chains_together(study, (0, 0), (1, 0), ((0, 0), (1, 0))), (((0, 0),), ((1, 0),)))
        self.assertIsNone(chains_together(study, (0, 0), (1, 0), ((0, 0), (0, 12))))
        self.assertIsNone(chains_together(study, (1, 0), (0, 0), ((0, 12), (0, 0))))

    def test_authors(self):
        study = the_study()
        self.assertEqual([authors(study, number) for number in range(3)],
                         [{"anon": (2, 2)}, {"anon": (2, 2)}, {"anon": (1, 1)}])
        self.assertEqual(authors(Study(the_history()), 1), {"anon": (0, 2), "ann": (0, 2)})
        self.assertEqual(authors(Study(History([Version([])])), 0), {})

    def test_a_new_dict_each_time(self):
        study = the_study()
        found = authors(study, 1)
        self.assertIs(type(found), dict)
        found["anon"] = found["eve"] = (7, 7)
        self.assertEqual(authors(study, 1), {"anon": (2, 2)})

    def test_long(self):
        for study in long_studies():
            for one, other in [((9, 0), (9, 5)), ((9, 2), (9, 10)), ((9, 5), (9, 0)), ((9, 1), (4, 2)), ((3, 2), (9, 4))]:
                found = origins_together(study, one, other)
                self.assertEqual(found, tuple(sorted(set(found))))
                self.assertEqual({first for first, _ in found}, set(origins(study, *one)))
                self.assertEqual({second for _, second in found}, set(origins(study, *other)))
                self.assertEqual({pair[::-1] for pair in found}, set(origins_together(study, other, one)))
                self.assertEqual(relation(study, one, other), wanted_relation(found))
                for pair in found[::1 + len(found) // 5]:
                    self.check_chains(study, one, other, pair)
            self.assertEqual(sum([sure for sure, _ in authors(study, 0).values()]), len(study.history.version(0)))
            self.assertTrue(links_together(study, (9, 0), (9, 11)))

    def check_chains(self, study, one, other, pair):
        """Both chains are possible, and where they come to one version its lines have their links together."""
        chains = chains_together(study, one, other, pair)
        self.assertEqual([chain[0] for chain in chains], [one, other])
        self.assertEqual(tuple([chain[-1] for chain in chains]), pair)
        links = [dict(zip(chain, [*chain[1:], None])) for chain in chains]
        for place, link in links[0].items():
            self.assertIn(link, possible_links(study, *place))
            for beside, its_link in links[1].items():
                if place[0] == beside[0]:
                    self.assertIn((link, its_link), links_together(study, place, beside))
        for place, link in links[1].items():
            self.assertIn(link, possible_links(study, *place))

    def test_by_name(self):
        study = the_study()
        for ask in OF_PAIRS[1:3]:
            self.assertEqual(ask(second=(0, 0), first=(2, 0), study=study), ask(study, (2, 0), (0, 0)))
        self.assertEqual(links_together(second=(1, 0), first=(1, 1), study=study), (((0, 0), (0, 1)),))
        self.assertEqual(chains_together(pair=((0, 0), (0, 0)), second=(0, 0), first=(2, 0), study=study)[1], ((0, 0),))
        self.assertEqual(authors(number=1, study=study), {"anon": (2, 2)})
        for ask in [links_together, origins_together, relation, chains_together, authors]:
            self.assertEqual(ask.__module__, module.__name__)


class TestWrongValues(Case):

    def test_first_is_no_place(self):
        study = the_study()
        for value in NO_PLACES:
            for ask in OF_PAIRS:
                self.assert_refused(InvalidLine, value, ask, study, value, (0, 0))

    def test_second_is_no_place(self):
        study = the_study()
        for value in NO_PLACES:
            for ask in OF_PAIRS:
                self.assert_refused(InvalidLine, value, ask, study, (0, 0), value)

    def test_first_comes_before_second(self):
        study = the_study()
        first, second = (3, 0), (0, 2)
        for ask in OF_PAIRS:
            self.assert_refused(InvalidLine, first, ask, study, first, second)
            self.assert_refused(InvalidLine, first, ask, study, first, None)

    def test_links_of_two_versions(self):
        study = the_study()
        for first, second in itertools.permutations([(0, 0), (1, 1), (2, 0)], 2):
            self.assert_refused(InvalidLine, second, links_together, study, first, second)

    def test_no_places_in_an_empty_history(self):
        place = (0, 0)
        for ask in OF_PAIRS:
            self.assert_refused(InvalidLine, place, ask, Study(History()), place, place)
            self.assert_refused(InvalidLine, place, ask, Study(History([Version([])])), place, place)

    def test_authors_of_no_version(self):
        for history in [the_history(), History()]:
            for value in no_indices(len(history)):
                self.assert_refused(InvalidNumber, value, authors, Study(history), value)
