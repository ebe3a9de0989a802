"""Hints, and papers for hints (points 20, 21 and 3 (g), (i), and hints.py)."""

import functools
import itertools
import random

from lineorigins import hints as module
from lineorigins.cheapest import cheapest_tellings, count_cheapest, possible_links, telling_with
from lineorigins.errors import InvalidLine, InvalidNumber, InvalidTelling
from lineorigins.hints import accepts_hints, fewest_hints, hint_paper, is_enough
from lineorigins.histories import History, Version
from lineorigins.prices import Prices
from lineorigins.ratios import Ratio
from lineorigins.studies import Study
from lineorigins.tellings import links_of
from tests.checking import changed
from tests.examples import run_example
from tests.listing import NEW, take
from tests.samples import FOLDED, HALF, THIRD, long_studies, samples, the_history, the_study
from tests.support import AGREEABLE, NO_LISTINGS, NO_WHOLE_NUMBERS, RUDE, Case, digits, no_indices

EXAMPLE = """
>>> from lineorigins.histories import History, Version
>>> from lineorigins.studies import Study
>>> from lineorigins.hints import accepts_hints, fewest_hints, hint_paper, is_enough
>>> history = History([Version(['a', 'b']), Version(['b', 'a'], parents=[0], author='ann'), Version(['a'], parents=[1])])
>>> study = Study(history)
>>> telling = (('new',), ('new',))
>>> paper = hint_paper(study, 1, telling)
>>> [fewest_hints(study, 1, telling), is_enough(study, 1, telling, (0,)), accepts_hints(study, 1, telling, 1, paper)]
[(0, 1), False, True]
"""
NEWS = (NEW, NEW)


@functools.cache
def chosen():
    """Versions of small histories with one of their cheapest tellings, its links, and the links of all others."""
    source = random.Random(9)
    found = []
    for study, listing in samples():
        for number, tellings in enumerate(listing.tellings):
            if len(tellings) > 1 or source.random() < 0.1:
                for at in source.sample(range(len(tellings)), min(len(tellings), 4)):
                    others = listing.links[number][:at] + listing.links[number][at + 1:]
                    found.append((study, listing, number, tellings[at], listing.links[number][at], others))
    return found


def tuples_of(size):
    """All ascending tuples of lines, shorter ones first, those of one length in list order."""
    return [lines for count in range(size + 1) for lines in itertools.combinations(range(size), count)]


def enough(links, others, lines):
    return not any([all([links[line] == other[line] for line in lines]) for other in others])


def accepts(listing, number, telling, most, value):
    """The conditions of point 21, gone through one by one with all cheapest tellings at hand."""
    size = len(listing.texts[number])
    if most > size or type(value) is not tuple:
        return False
    told = {repr(other): links for other, links in zip(listing.tellings[number], listing.links[number])}
    choices = list(itertools.combinations(range(size), most))
    if len(value) != len(choices):
        return False
    for other, lines in zip(value, choices):
        links = told.get(repr(other))
        if links is None or repr(other) == repr(telling):
            return False
        if any([links[line] != told[repr(telling)][line] for line in lines]):
            return False
    return True


def two_links_each():
    """A version of twelve lines that can each come from two versions: 4096 cheapest tellings."""
    return History([Version([f"{at}" for at in range(12)]), Version([f"{at}" for at in range(11, -1, -1)]),
                    Version([f"{at * 5 % 12}" for at in range(12)], parents=[0, 1])])


class TestListed(Case):
    """The answers beside all cheapest tellings."""

    def test_is_enough(self):
        seen = set()
        for study, listing, number, telling, links, others in chosen():
            for lines in tuples_of(len(links)):
                found = is_enough(study, number, telling, lines)
                self.assertIs(found, enough(links, others, lines))
                seen.add((len(lines), found))
        self.assertLessEqual(set(itertools.product(range(4), [True, False])) - {(3, False)}, seen)

    def test_fewest_hints(self):
        seen = set()
        for study, listing, number, telling, links, others in chosen():
            wanted = [lines for lines in tuples_of(len(links)) if enough(links, others, lines)]
            self.assert_same(fewest_hints(study, number, telling), wanted[0])
            tied = [lines for lines in wanted if len(lines) == len(wanted[0])]
            seen.add((len(wanted[0]), len(links), len(tied) > 1))
        self.assertLessEqual({(0, 2, False), (1, 1, False), (1, 3, True), (2, 2, False), (2, 3, True), (3, 3, False)}, seen)

    def test_papers(self):
        lengths = set()
        for study, listing, number, telling, links, _ in chosen():
            paper = hint_paper(study, number, telling)
            fewest = fewest_hints(study, number, telling)
            if fewest == ():
                self.assertIsNone(paper)
                continue
            most = len(fewest) - 1
            lengths.add(len(paper))
            self.assertTrue(accepts(listing, number, telling, most, paper))
            for number_of_lines in range(len(links) + 3):
                self.assertIs(accepts_hints(study, number, telling, number_of_lines, paper),
                              accepts(listing, number, telling, number_of_lines, paper))
            self.assertIs(accepts_hints(study, number, telling, most, paper), True)
        self.assertLessEqual({1, 2, 3}, lengths)

    def test_false_papers(self):
        """Papers with changes at random, papers for other numbers and papers for other tellings."""
        source = random.Random(13)
        seen = {True: 0, False: 0}
        for study, listing, number, telling, links, others in chosen()[::2]:
            paper = hint_paper(study, number, telling)
            values = [(), None, (telling,), (telling,) * len(links)]
            for most in range(len(links) + 1):
                shown = []
                for lines in itertools.combinations(range(len(links)), most):
                    fitting = [other for other, told in zip(listing.tellings[number], listing.links[number])
                               if other != telling and not any([told[line] != links[line] for line in lines])]
                    shown.append(source.choice(fitting or listing.tellings[number]))
                values.append(tuple(shown))
            values += [changed(value, source) for value in values for _ in range(3)]
            values += [] if paper is None else [changed(paper, source) for _ in range(12)]
            for value in values:
                for most in range(len(links) + 2):
                    found = accepts_hints(study, number, telling, most, value)
                    self.assertIs(found, accepts(listing, number, telling, most, value))
                    if found:
                        self.assertGreater(len(fewest_hints(study, number, telling)), most)
                    seen[found] += 1
        self.assertGreater(min(seen.values()), 300)

    def test_accepted_papers_are_right(self):
        """A paper is accepted only for fewer lines than are enough; for each such number there is one."""
        for study, listing, number, telling, links, _ in chosen()[::3]:
            fewest = len(fewest_hints(study, number, telling))
            for most in range(len(links) + 1):
                found = []
                for lines in itertools.combinations(range(len(links)), most):
                    found.append([other for other in listing.tellings[number]
                                  if accepts_one(study, number, telling, lines, other)])
                self.assertEqual(all(found), most < fewest)
                if all(found):
                    self.assertTrue(accepts_hints(study, number, telling, most, tuple([some[-1] for some in found])))


def accepts_one(study, number, telling, lines, other):
    wanted = links_of(study.history, number, telling, prices=study.prices)
    told = links_of(study.history, number, other, prices=study.prices)
    return other != telling and all([told[line] == wanted[line] for line in lines])


class TestEdges(Case):

    def test_example(self):
        self.assertEqual(*run_example(EXAMPLE))

    def test_no_hint_needed(self):
        study = the_study()
        for number, telling in [(0, NEWS), (1, (take(0, 1, 1), take(0, 0, 1)))]:
            self.assert_same(fewest_hints(study, number, telling), ())
            self.assertIs(is_enough(study, number, telling, ()), True)
            self.assertIsNone(hint_paper(study, number, telling))
            for value in [None, (), (telling,), (NEWS,)]:
                for most in range(4):
                    self.assertIs(accepts_hints(study, number, telling, most, value), False)

    def test_no_lines(self):
        study = Study(History([Version([])]))
        self.assert_same(fewest_hints(study, 0, ()), ())
        self.assertIs(is_enough(study, 0, (), ()), True)
        self.assertIsNone(hint_paper(study, 0, ()))
        for value in [(), ((),), None]:
            for most in range(3):
                self.assertIs(accepts_hints(study, 0, (), most, value), False)
        for lines in [(0,), [], None]:
            self.assert_refused(InvalidLine, lines, is_enough, study, 0, (), lines)

    def test_one_hint(self):
        study = the_study()
        first, second = (take(0, 0, 1),), (take(1, 1, 1),)
        for telling, other in [(first, second), (second, first)]:
            self.assert_same(fewest_hints(study, 2, telling), (0,))
            self.assert_same(hint_paper(study, 2, telling), (other,))
            self.assertIs(is_enough(study, 2, telling, ()), False)
            self.assertIs(is_enough(study, 2, telling, (0,)), True)
            self.assertIs(accepts_hints(study, 2, telling, 0, (other,)), True)
            self.assertIs(accepts_hints(study, 2, telling, 1, (other,)), False)

    def test_all_lines(self):
        study = Study(the_history())
        for telling in cheapest_tellings(study, 1):
            self.assert_same(fewest_hints(study, 1, telling), (0, 1))
            self.assertEqual(len(hint_paper(study, 1, telling)), 2)

    def test_ties(self):
        """Each line alone tells whether the whole text is one piece from the one parent or the other."""
        study = Study(History([Version(["a", "b", "c"]), Version(["a", "b", "c"]), Version(["a", "b", "c"], parents=[0, 1])]))
        one, other = (take(0, 0, 3),), (take(1, 0, 3),)
        self.assert_same(fewest_hints(study, 2, one), (0,))
        self.assert_same(hint_paper(study, 2, one), (other,))
        for lines in [(0,), (1,), (2,), (0, 2), (0, 1, 2)]:
            self.assertIs(is_enough(study, 2, one, lines), True)

    def test_a_later_line_counts_where_the_first_does_not(self):
        study = Study(History([Version(["x", "b"]), Version(["x", "b"]), Version(["a", "b"], parents=[0, 1])]),
                      prices=Prices(piece=HALF))
        self.assert_same(fewest_hints(study, 2, (NEW, take(0, 1, 1))), (1,))
        self.assertIs(is_enough(study, 2, (NEW, take(0, 1, 1)), (0,)), False)

    def test_each_condition_broken_alone(self):
        study = Study(History([Version(list("abc")), Version(list("cba"), parents=[0])]))
        telling = (NEW,) * 3
        paper = hint_paper(study, 1, telling)
        self.assertEqual(len(paper), 3)
        self.assertIs(accepts_hints(study, 1, telling, 2, paper), True)
        one, two, three = [NEW, NEW, take(0, 0, 1)], [NEW, take(0, 1, 1), NEW], [take(0, 2, 1), NEW, NEW]
        right = (tuple(one), tuple(two), tuple(three))
        self.assertIs(accepts_hints(study, 1, telling, 2, right), True)
        for wrong in [
                right + (right[0],), right[:2], right[1:], (), list(right), right[::-1], (right[0], right[0], right[2]),
                (one, right[1], right[2]), (telling, right[1], right[2]), right[:2] + (telling,), right[:2] + (None,),
                right[:2] + ((NEW, NEW),), right[:2] + ((NEW,) * 4,), right[:2] + ((take(0, 2, 1), take(0, 2, 1), NEW),),
                right[:2] + ((take(0, 0, 1), NEW, NEW),), right[:2] + ((take(0, 2, 1), take(0, 1, 1), NEW),),
                right[:2] + ((take(0, 2, True), NEW, NEW),), right[:2] + ((take(False, 2, 1), NEW, NEW),),
                right[:2] + (([take(0, 2, 1)], NEW, NEW),), right[:2] + ((list(take(0, 2, 1)), NEW, NEW),),
                right[:2] + (RUDE,), (AGREEABLE,) * 3, right[0], (right,), None, RUDE, AGREEABLE, "abc", 0]:
            self.assertIs(accepts_hints(study, 1, telling, 2, wrong), False)
        for most in [0, 1, 3, 4, digits(200)]:
            self.assertIs(accepts_hints(study, 1, telling, most, right), False)
        self.assertIs(accepts_hints(study, 1, telling, 1, right), False)
        self.assertIs(accepts_hints(study, 1, telling, 0, (right[0],)), True)
        self.assertIs(accepts_hints(study, 1, telling, 1, (right[0], right[0], right[1])), True)

    def test_dearer_tellings(self):
        """A telling with the right links at the lines, but with another price."""
        study = Study(History([Version(["a"]), Version(["a"]), Version(["a", "b"], parents=[0, 1])]), prices=Prices(piece=HALF))
        telling, other, dearer = (take(0, 0, 1), NEW), (take(1, 0, 1), NEW), (NEW, NEW)
        self.assertIs(accepts_hints(study, 2, telling, 0, (other,)), True)
        self.assertIs(accepts_hints(study, 2, telling, 0, (dearer,)), False)
        self.assert_refused(InvalidTelling, dearer, fewest_hints, study, 2, dearer)

    def test_numbers_of_lines(self):
        """As many lines as there are, and more."""
        study = Study(the_history())
        for most, value in [(2, ((NEW, take(0, 0, 1)),)), (2, (NEWS,)), (3, ()), (3, (NEWS,)), (digits(200), ()), (12, ())]:
            self.assertIs(accepts_hints(study, 1, NEWS, most, value), False)

    def test_far_and_alike(self):
        history = History([Version(["a", "b"]), Version(["A", "B"], parents=[0]), Version(["a", "B"], parents=[1])])
        prices = Prices(piece=HALF, far=THIRD, alike=THIRD, layout=FOLDED)
        study = Study(history, prices=prices)
        tellings = list(cheapest_tellings(study, 2))
        self.assertEqual(tellings, [(take(1, 0, 2),)])
        self.assert_same(fewest_hints(study, 2, tellings[0]), ())

    def test_twelve_lines_with_two_links_each(self):
        study = Study(two_links_each(), prices=Prices(piece=HALF))
        self.assertEqual(count_cheapest(study, 2), 2 ** 12)
        self.assertEqual({len(possible_links(study, 2, index)) for index in range(12)}, {2})
        telling = next(cheapest_tellings(study, 2))
        every = tuple(range(12))
        self.assert_same(fewest_hints(study, 2, telling), every)
        paper = hint_paper(study, 2, telling)
        self.assertEqual(len(paper), 12)
        self.assertIs(accepts_hints(study, 2, telling, 11, paper), True)
        self.assertIs(accepts_hints(study, 2, telling, 10, paper), False)
        for line in range(12):
            self.assertIs(is_enough(study, 2, telling, every[:line] + every[line + 1:]), False)
        self.assertIs(is_enough(study, 2, telling, every), True)

    def test_pairs_of_lines_that_go_together(self):
        """Six pieces of two lines: one line of each pair is enough, so the paper has 792 tellings."""
        lines = [f"{at}" for at in range(12)]
        mixed = [line for at in [3, 0, 5, 1, 4, 2] for line in lines[2 * at:2 * at + 2]]
        history = History([Version(lines), Version(lines), Version(mixed, parents=[0, 1])])
        study = Study(history, prices=Prices(piece=HALF))
        self.assertEqual(count_cheapest(study, 2), 2 ** 6)
        for telling in [next(cheapest_tellings(study, 2)), telling_with(study, 2, 4, (1, 10))]:
            self.assert_same(fewest_hints(study, 2, telling), (0, 2, 4, 6, 8, 10))
            paper = hint_paper(study, 2, telling)
            self.assertEqual(len(paper), 792)
            self.assertIs(accepts_hints(study, 2, telling, 5, paper), True)
            self.assertIs(accepts_hints(study, 2, telling, 5, paper[1:] + paper[:1]), False)

    def test_long(self):
        for study in long_studies():
            for number in [1, 4, 9]:
                telling = telling_with(study, number, 0, possible_links(study, number, 0)[-1])
                fewest = fewest_hints(study, number, telling)
                self.assertIs(is_enough(study, number, telling, fewest), True)
                paper = hint_paper(study, number, telling)
                if fewest == ():
                    self.assertEqual([paper, count_cheapest(study, number)], [None, 1])
                else:
                    self.assertIs(accepts_hints(study, number, telling, len(fewest) - 1, paper), True)
                    self.assertIs(is_enough(study, number, telling, fewest[1:]), False)
                    self.assertIs(is_enough(study, number, telling, tuple(range(len(study.history.version(number))))), True)

    def test_by_name(self):
        study = Study(the_history())
        paper = hint_paper(telling=NEWS, number=1, study=study)
        self.assertIs(is_enough(lines=(0,), telling=NEWS, number=1, study=study), False)
        self.assertEqual(fewest_hints(telling=NEWS, number=1, study=study), (0, 1))
        self.assertIs(accepts_hints(value=paper, most=1, telling=NEWS, number=1, study=study), True)
        for ask in [is_enough, fewest_hints, hint_paper, accepts_hints]:
            self.assertEqual(ask.__module__, module.__name__)


class TestWrongValues(Case):

    def asks(self):
        return [fewest_hints, hint_paper, lambda *args: is_enough(*args, (0,)), lambda *args: is_enough(*args, None),
                lambda *args: accepts_hints(*args, 1, ()), lambda *args: accepts_hints(*args, None, None)]

    def test_no_version(self):
        for history in [the_history(), History()]:
            study = Study(history)
            for value in no_indices(len(history)):
                for ask in self.asks():
                    self.assert_refused(InvalidNumber, value, ask, study, value, NEWS)
                    self.assert_refused(InvalidNumber, value, ask, study, value, None)

    def test_no_cheapest_telling(self):
        study = the_study()
        right = (take(0, 1, 1), take(0, 0, 1))
        wrong = [*NO_LISTINGS, [], (), list(right), right[:1], right[::-1], right + (NEW,), NEWS, (NEW, right[1]),
                 (right[0], NEW), (list(right[0]), right[1]), (take(0, 1, True), right[1]), (take(False, 1, 1), right[1]),
                 (take(1, 1, 1), right[1]), (take(0, 0, 1), right[1]), (RUDE, right[1]), (AGREEABLE, AGREEABLE), (None, None),
                 (take(0, 1, 2),), (Ratio(0), Ratio(1)), right[0]]
        for value in wrong:
            for ask in self.asks():
                self.assert_refused(InvalidTelling, value, ask, study, 1, value)
        for ask in [fewest_hints, hint_paper]:
            ask(study, 1, right)

    def test_a_telling_of_another_version_or_other_prices(self):
        study = the_study()
        telling = (take(1, 1, 1),)
        self.assert_refused(InvalidTelling, telling, fewest_hints, study, 1, telling)
        self.assert_refused(InvalidTelling, telling, fewest_hints, Study(the_history(), prices=Prices(piece=2)), 2, telling)
        self.assert_refused(InvalidTelling, telling, fewest_hints, Study(the_history(), prices=Prices(least=2)), 2, telling)
        self.assertEqual(fewest_hints(study, 2, telling), (0,))

    def test_no_lines_of_the_version(self):
        study = Study(the_history())
        for value in [*NO_LISTINGS, [], [0], [0, 1], (2,), (0, 2), (-1,), (-1, 0), (1, 0), (0, 0), (1, 1), (0, 1, 1), (0, 1, 2),
                      (True,), (False,), (False, 1), (0, True), (None,), (0, None), ("0",), (0.0,), (Ratio(0),), (RUDE,),
                      (AGREEABLE,), (0, AGREEABLE), ((0,),), ((0, 1),), (digits(200),), (0, digits(200))]:
            self.assert_refused(InvalidLine, value, is_enough, study, 1, NEWS, value)
        for value in [(), (0,), (1,), (0, 1)]:
            self.assertIs(is_enough(study, 1, NEWS, value), value == (0, 1))

    def test_no_number_of_lines(self):
        study = Study(the_history())
        for value in [*NO_WHOLE_NUMBERS, -1, -digits(200), Ratio(1), Ratio(1, 2)]:
            for paper in [(), None, RUDE, hint_paper(study, 1, NEWS)]:
                self.assert_refused(InvalidNumber, value, accepts_hints, study, 1, NEWS, value, paper)

    def test_the_order_of_the_errors(self):
        study = Study(the_history())
        number, telling, lines = digits(30), object(), object()
        for ask, field in [(is_enough, (lines,)), (accepts_hints, (lines, lines))]:
            self.assert_refused(InvalidNumber, number, ask, study, number, telling, *field)
            self.assert_refused(InvalidTelling, telling, ask, study, 1, telling, *field)
        self.assert_refused(InvalidLine, lines, is_enough, study, 1, NEWS, lines)
        self.assert_refused(InvalidNumber, lines, accepts_hints, study, 1, NEWS, lines, lines)
