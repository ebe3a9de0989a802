"""Merges, copies, and lines that come back (points 16 and 3 (d), and merges.py)."""

from lineorigins import merges
from lineorigins.cheapest import cheapest_tellings, possible_links
from lineorigins.errors import InvalidNumber
from lineorigins.histories import History, Version
from lineorigins.merges import carried, returned, sides, uses, written_twice
from lineorigins.origins import origins
from lineorigins.prices import Prices
from lineorigins.ratios import Ratio
from lineorigins.studies import Study
from lineorigins.tellings import links_of
from tests.examples import run_example
from tests.samples import HALF, long_studies, samples, the_history, the_study
from tests.support import Case, digits, no_indices

EXAMPLE = """
>>> from lineorigins.histories import History, Version
>>> from lineorigins.ratios import Ratio
>>> from lineorigins.prices import Prices
>>> from lineorigins.studies import Study
>>> from lineorigins.merges import carried, returned, uses
>>> history = History([Version(['a', 'b']), Version(['b', 'a'], parents=[0], author='ann'), Version(['a'], parents=[1])])
>>> study = Study(history, prices=Prices(piece=Ratio(1, 2)))
>>> [uses(study, 1, 0, 0), carried(study, 1, 0), returned(study, 2)]
[(1, 1), ('surely', 'surely'), ((), (0,))]
"""


class TestListed(Case):
    """The answers beside all cheapest tellings."""

    def test_uses_and_carried(self):
        seen = set()
        for study, listing in samples():
            for number, tellings in enumerate(listing.links):
                for source in listing.ancestors(number):
                    wanted = []
                    for index in range(len(listing.texts[source])):
                        times = [links.count((source, index)) for links in tellings]
                        self.assert_same(uses(study, number, source, index), (min(times), max(times)))
                        seen.add((min(times), max(times)))
                        wanted.append("surely" if min(times) > 0 else "never" if max(times) == 0 else "perhaps")
                    self.assert_same(carried(study, number, source), tuple(wanted))
        self.assertLessEqual({(0, 0), (0, 1), (1, 1), (0, 2), (1, 2), (2, 2)}, seen)

    def test_sides(self):
        for study, listing in samples():
            for number, index in listing.places:
                links = {links[index] for links in listing.links[number]} - {None}
                self.assert_same(sides(study, number, index), tuple(sorted({source for source, _ in links})))

    def test_returned(self):
        seen = [0, 0]
        for study, listing in samples():
            for number, text in enumerate(listing.texts):
                near = {None, *listing.parents[number]}
                every, some = [], []
                for index in range(len(text)):
                    sources = [link and link[0] for link in {links[index] for links in listing.links[number]}]
                    far = [source not in near for source in sources]
                    if all(far):
                        every.append(index)
                    elif any(far):
                        some.append(index)
                self.assert_same(returned(study, number), (tuple(every), tuple(some)))
                seen = [seen[0] + len(every), seen[1] + len(some)]
        self.assertGreater(min(seen), 20)

    def test_written_twice(self):
        seen = 0
        for study, listing in samples():
            chains = listing.chains()
            for number, text in enumerate(listing.texts):
                wanted = []
                for index in range(len(text)):
                    sources = {links[index][0] for links in listing.links[number] if links[index] is not None}
                    if len(sources & set(listing.parents[number])) >= 2:
                        if len({chain[-1] for chain in chains[number, index]}) >= 2:
                            wanted.append(index)
                self.assert_same(written_twice(study, number), tuple(wanted))
                seen += len(wanted)
        self.assertGreater(seen, 20)


class TestEdges(Case):

    def test_example(self):
        self.assertEqual(*run_example(EXAMPLE))

    def test_a_line_that_is_copied(self):
        history = History([Version(["a", "b"]), Version(["a", "b", "x", "b", "a", "b"], parents=[0])])
        study = Study(history, prices=Prices(piece=HALF))
        self.assert_same([uses(study, 1, 0, 0), uses(study, 1, 0, 1)], [(2, 2), (3, 3)])
        study = Study(history)
        # Two copies are cheaper than new lines; the single line could be new as well.
        self.assert_same([uses(study, 1, 0, 0), uses(study, 1, 0, 1)], [(2, 2), (2, 3)])
        self.assert_same(carried(study, 1, 0), ("surely", "surely"))

    def test_carried_at_all(self):
        history = History([Version(["a", "b", "c"]), Version(["a", "c"], parents=[0]), Version(["a"], parents=[1])])
        study = Study(history)
        self.assert_same(carried(study, 1, 0), ("perhaps", "never", "perhaps"))
        self.assert_same(carried(study, 2, 0), ("perhaps", "never", "never"))
        self.assert_same(carried(study, 2, 1), ("perhaps", "never"))
        study = Study(history, prices=Prices(piece=2))
        self.assert_same([carried(study, 1, 0), carried(study, 2, 1)], [("never",) * 3, ("never",) * 2])

    def test_lines_that_come_back(self):
        history = History([Version(["a", "b"]), Version(["b"], parents=[0]), Version(["a", "b", "c"], parents=[1])])
        study = Study(history, prices=Prices(piece=HALF))
        self.assert_same(returned(study, 2), ((0, 1), ()))
        self.assert_same([sides(study, 2, index) for index in range(3)], [(0,), (0,), ()])
        study = Study(history, prices=Prices(piece=HALF, far=1))
        self.assert_same(returned(study, 2), ((), (0, 1)))
        self.assert_same(sides(study, 2, 1), (0, 1))
        study = Study(history, prices=Prices(piece=HALF, far=2))
        self.assert_same(returned(study, 2), ((), ()))

    def test_a_line_that_is_new_has_not_come_back(self):
        history = History([Version(["a"]), Version(["b"], parents=[0]), Version(["a"], parents=[1])])
        self.assert_same(returned(Study(history), 2), ((), (0,)))
        self.assert_same(returned(Study(history, prices=Prices(piece=2)), 2), ((), ()))
        self.assert_same(returned(Study(history, prices=Prices(piece=HALF)), 2), ((0,), ()))

    def test_written_twice(self):
        """Both parents wrote the line themselves, or both took it from one version."""
        twice = [Version(["x"]), Version(["a"], parents=[0]), Version(["a"], parents=[0]), Version(["a"], parents=[1, 2])]
        study = Study(History(twice), prices=Prices(piece=HALF))
        self.assert_same(written_twice(study, 3), (0,))
        once = [Version(["a"]), *twice[1:]]
        study = Study(History(once), prices=Prices(piece=HALF, far=1))
        self.assert_same([sides(study, 3, 0), written_twice(study, 3)], [(1, 2), ()])
        # Two origins, but by one parent only; the other source is no parent.
        one = [Version(["a"]), Version(["a", "a"]), Version(["a"], parents=[1, 0])]
        self.assert_same(written_twice(Study(History(one), prices=Prices(piece=HALF)), 2), (0,))
        one = [Version(["a"]), Version(["a", "a"], parents=[0]), Version(["a"], parents=[1])]
        study = Study(History(one), prices=Prices(piece=Ratio(2, 3)))
        self.assertEqual([sides(study, 2, 0), len(origins(study, 2, 0)) >= 2], [(0, 1), False])
        one = [Version(["a"]), Version(["a", "a"]), Version(["x"], parents=[0]), Version(["a"], parents=[1, 2])]
        study = Study(History(one), prices=Prices(piece=HALF))
        self.assertEqual([sides(study, 3, 0), len(origins(study, 3, 0))], [(0, 1), 3])
        self.assert_same(written_twice(study, 3), ())

    def test_no_lines(self):
        study = Study(History([Version([]), Version(["a"], parents=[0]), Version([], parents=[0, 1])]))
        self.assert_same(carried(study, 1, 0), ())
        self.assert_same(carried(study, 2, 1), ("never",))
        self.assert_same(uses(study, 2, 1, 0), (0, 0))
        self.assert_same([returned(study, 2), written_twice(study, 2)], [((), ()), ()])

    def test_long(self):
        for study in long_studies():
            for number in [1, 5, 9]:
                telling = next(cheapest_tellings(study, number))
                links = links_of(study.history, number, telling, prices=study.prices)
                for source in study.history.ancestors(number):
                    for index, word in enumerate(carried(study, number, source)):
                        least, most = uses(study, number, source, index)
                        self.assertTrue(least <= links.count((source, index)) <= most)
                        self.assertEqual(word == "never", most == 0)
                every, some = returned(study, number)
                self.assertFalse(set(every) & set(some))
                for index in written_twice(study, number):
                    self.assertGreater(len(possible_links(study, number, index)), 1)
        study = long_studies()[-1]
        self.assertEqual(uses(study, 9, 8, 0), (0, 6))
        self.assertEqual(written_twice(study, 9), (0, 2, 4, 6, 8, 10))

    def test_by_name(self):
        study = the_study()
        self.assertEqual(uses(index=0, source=0, number=1, study=study), (1, 1))
        self.assertEqual(carried(source=0, number=1, study=study), ("surely", "surely"))
        self.assertEqual(sides(index=0, number=2, study=study), (0, 1))
        self.assertEqual(returned(number=2, study=study), ((), (0,)))
        self.assertEqual(written_twice(number=2, study=study), ())
        for ask in [uses, carried, sides, returned, written_twice]:
            self.assertEqual(ask.__module__, merges.__name__)


class TestWrongValues(Case):

    def test_no_version(self):
        for history in [the_history(), History()]:
            study = Study(history)
            for value in no_indices(len(history)):
                for source in [0, "no", value]:
                    self.assert_refused(InvalidNumber, value, uses, study, value, source, 0)
                    self.assert_refused(InvalidNumber, value, uses, study, value, source, "no")
                    self.assert_refused(InvalidNumber, value, carried, study, value, source)
                self.assert_refused(InvalidNumber, value, sides, study, value, 0)
                self.assert_refused(InvalidNumber, value, sides, study, value, "no")
                for ask in [returned, written_twice]:
                    self.assert_refused(InvalidNumber, value, ask, study, value)

    def test_no_ancestor(self):
        history = History([Version(["a"]), Version(["a"]), Version(["a"], parents=[1]), Version(["a"], parents=[2])])
        study = Study(history)
        for number, wrong in [(0, range(4)), (1, range(4)), (2, [0, 2, 3]), (3, [0, 3])]:
            for source in [*wrong, *no_indices(4)]:
                self.assert_refused(InvalidNumber, source, uses, study, number, source, 0)
                self.assert_refused(InvalidNumber, source, uses, study, number, source, "no")
                self.assert_refused(InvalidNumber, source, carried, study, number, source)
        self.assertEqual(uses(study, 3, 1, 0), (0, 1))

    def test_number_comes_before_source(self):
        number, source = digits(30), digits(31)
        self.assert_refused(InvalidNumber, number, uses, the_study(), number, source, digits(32))
        self.assert_refused(InvalidNumber, number, carried, the_study(), number, source)
        self.assert_refused(InvalidNumber, source, uses, the_study(), 1, source, digits(32))

    def test_no_line(self):
        study = Study(History([Version(["a", "b"]), Version([], parents=[0]), Version(["c"], parents=[1])]))
        for number, source, size in [(1, 0, 2), (2, 1, 0), (2, 0, 2)]:
            for value in no_indices(size):
                self.assert_refused(InvalidNumber, value, uses, study, number, source, value)
        for number, size in [(0, 2), (1, 0), (2, 1)]:
            for value in no_indices(size):
                self.assert_refused(InvalidNumber, value, sides, study, number, value)
