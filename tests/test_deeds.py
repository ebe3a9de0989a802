"""Recorded deeds (point 18, and deeds.py)."""

import random

from lineorigins import deeds as module
from lineorigins.deeds import telling_of
from lineorigins.errors import InvalidDeeds, InvalidNumber, InvalidPrices
from lineorigins.histories import History, Version
from lineorigins.layouts import Layout
from lineorigins.prices import Prices
from lineorigins.ratios import Ratio
from lineorigins.tellings import is_telling, links_of
from tests.examples import run_example
from tests.listing import NEW, take
from tests.samples import FOLDED, the_history
from tests.support import AGREEABLE, NO_LISTINGS, NO_STRINGS, NO_WHOLE_NUMBERS, RUDE, Case, digits, no_indices

EXAMPLE = """
>>> from lineorigins.histories import History, Version
>>> from lineorigins.deeds import telling_of
>>> history = History([Version(['a', 'b']), Version(['b', 'a'], parents=[0], author='ann'), Version(['a'], parents=[1])])
>>> telling_of(history, 1, [('bring', 0, 0, 2, 0), ('move', 0, 1, 1)])
(('take', 0, 1, 1), ('take', 0, 0, 1))
"""
NO_PRICES = [True, False, 0, 1, "", "piece 1 far 0 alike 0 least 1", (), [], Prices, Layout(), RUDE, AGREEABLE]


def history_of(*lines):
    """Version 0 has the lines a to f, version 1 the lines B and x; version 2, made from both, has these lines."""
    return History([Version(list("abcdef")), Version(["B", "x"], parents=[0]), Version(lines, parents=[1])])


class Author:
    """Does deeds as point 18 words them, on a list of single lines."""

    def __init__(self, history, number, layout):
        self.history, self.number, self.layout = history, number, layout
        self.text = []

    def do(self, deed):
        kind = deed[0]
        if kind == "write":
            self.text.insert(deed[1], [deed[2], None])
        elif kind == "change":
            line = self.text[deed[1]]
            line[0] = deed[2]
            if line[1] is not None:
                old = self.history.version(line[1][0]).lines[line[1][1]]
                if self.layout(old) != self.layout(deed[2]):
                    line[1] = None
        elif kind == "bring":
            _, source, first, count, to = deed
            for at in reversed(range(first, first + count)):
                self.text.insert(to, [self.history.version(source).lines[at], (source, at)])
        elif kind == "remove":
            for _ in range(deed[2]):
                self.text.pop(deed[1])
        else:
            _, at, count, to = deed
            lines = [list(line) for line in self.text[at:at + count]]
            if kind == "move":
                for _ in range(count):
                    self.text.pop(at)
            for line in reversed(lines):
                self.text.insert(to, line)

    def some_deed(self, source):
        """Any deed that can be done."""
        size = len(self.text)
        words = ["a", "b", "A", " a", "B", "c"]
        kinds = ["write", "bring", "bring"] if size < 3 else ["write", "change", "change", "bring", "move", "copy", "remove"]
        kind = source.choice(kinds if size < 20 else ["remove"])
        at = source.randrange(size) if size else 0
        count = source.randint(1, size - at) if size else 1
        if kind == "write":
            return ("write", source.randint(0, size), source.choice(words))
        if kind == "change":
            return ("change", at, source.choice(words))
        if kind == "bring":
            number = source.choice(self.history.ancestors(self.number))
            lines = len(self.history.version(number))
            first = source.randrange(lines)
            return ("bring", number, first, source.randint(1, lines - first), source.randint(0, size))
        if kind == "move":
            return ("move", at, count, source.randint(0, size - count))
        return ("copy", at, count, source.randint(0, size)) if kind == "copy" else ("remove", at, count)


def pieces_of(links, least):
    """The telling with the longest pieces, found line by line from the end."""
    runs = []
    for link in reversed(links):
        if runs and link and runs[0][0] and (link[0], link[1] + 1) == runs[0][0]:
            runs[0] = (link, runs[0][1] + 1)
        else:
            runs.insert(0, (link, 1))
    found = []
    for link, length in runs:
        found += [NEW] * length if link is None or length < least else [take(*link, length)]
    return tuple(found)


class TestDeeds(Case):

    def assert_told(self, lines, deeds, telling, **prices):
        """These deeds make these lines of version 2, and give this telling, as a list and as a tuple."""
        history = history_of(*lines)
        found = telling_of(history, 2, deeds, prices=Prices(**prices))
        self.assert_same(found, telling)
        self.assert_same(telling_of(history, 2, tuple(deeds), prices=Prices(**prices)), telling)
        self.assertTrue(is_telling(history, 2, found, prices=Prices(**prices)))

    def assert_undoable(self, before, deed, lines=()):
        """This deed cannot be done after these."""
        history = history_of(*lines)
        for deeds in [[*before, deed], (*before, deed), [*before, deed, ("nothing",)], [*before, deed, None]]:
            self.assert_refused(InvalidDeeds, deed, telling_of, history, 2, deeds)

    def test_example(self):
        self.assertEqual(*run_example(EXAMPLE))

    def test_nothing_done(self):
        self.assert_told([], [], ())
        history = history_of("a")
        for deeds in [[], ()]:
            self.assert_refused(InvalidDeeds, deeds, telling_of, history, 2, deeds)

    def test_write(self):
        self.assert_told(["a"], [("write", 0, "a")], (NEW,))
        self.assert_told(["a", "b", "c"], [("write", 0, "b"), ("write", 0, "a"), ("write", 2, "c")], (NEW,) * 3)
        self.assert_told(["a", "b", "c"], [("write", 0, "a"), ("write", 1, "c"), ("write", 1, "b")], (NEW,) * 3)
        self.assert_told([""], [("write", 0, "")], (NEW,))
        self.assert_told(["a" * 40], [("write", 0, "a" * 40)], (NEW,))
        for before, at in [([], 1), ([("write", 0, "a")], 2), ([], digits(200)), ([], -1)]:
            self.assert_undoable(before, ("write", at, "a"), ["a"])
        for line in ["a" * 41, "a\n", "\n", *NO_STRINGS]:
            self.assert_undoable([], ("write", 0, line))

    def test_write_between_lines_of_a_piece(self):
        self.assert_told(["a", "x", "b"], [("bring", 0, 0, 2, 0), ("write", 1, "x")], (take(0, 0, 1), NEW, take(0, 1, 1)))

    def test_change(self):
        self.assert_told(["x", "b"], [("bring", 0, 0, 2, 0), ("change", 0, "x")], (NEW, take(0, 1, 1)))
        self.assert_told(["a", "x"], [("bring", 0, 0, 2, 0), ("change", 1, "x")], (take(0, 0, 1), NEW))
        self.assert_told(["y"], [("write", 0, "x"), ("change", 0, "y")], (NEW,))
        self.assert_told(["a", "b"], [("bring", 0, 0, 2, 0), ("change", 1, "b")], (take(0, 0, 2),))
        for before, at in [([], 0), ([("write", 0, "a")], 1), ([("bring", 0, 0, 2, 0)], 2), ([("write", 0, "a")], -1)]:
            self.assert_undoable(before, ("change", at, "a"), ["a"])
        for line in ["a" * 41, "a\n", *NO_STRINGS]:
            self.assert_undoable([("write", 0, "a")], ("change", 0, line))

    def test_change_to_a_line_that_is_alike(self):
        deeds = [("bring", 0, 0, 3, 0), ("change", 1, " B ")]
        self.assert_told(["a", " B ", "c"], deeds, (take(0, 0, 3),), layout=FOLDED)
        self.assert_told(["a", " B ", "c"], deeds, (take(0, 0, 1), NEW, take(0, 2, 1)))
        self.assert_told(["a", " B ", "c"], deeds, (take(0, 0, 1), NEW, take(0, 2, 1)), layout=Layout(folded=True))

    def test_alike_to_the_line_of_the_link_only(self):
        """What counts is the line that the link leads to, not the line before the change."""
        ignored = Layout(ignored="xy")
        self.assert_told(["ay"], [("bring", 0, 0, 1, 0), ("change", 0, "xa"), ("change", 0, "ay")], (take(0, 0, 1),),
                         layout=ignored)
        self.assert_told(["A"], [("bring", 0, 0, 1, 0), ("change", 0, "A"), ("change", 0, "A")], (NEW,), layout=ignored)

    def test_a_link_that_is_lost_does_not_come_back(self):
        self.assert_told(["a"], [("bring", 0, 0, 1, 0), ("change", 0, "x"), ("change", 0, "a")], (NEW,), layout=FOLDED)
        self.assert_told(["b"], [("bring", 0, 0, 1, 0), ("change", 0, "b")], (NEW,), layout=FOLDED)

    def test_bring(self):
        self.assert_told(list("abcdef"), [("bring", 0, 0, 6, 0)], (take(0, 0, 6),))
        self.assert_told(["f"], [("bring", 0, 5, 1, 0)], (take(0, 5, 1),))
        self.assert_told(["x"], [("bring", 1, 1, 1, 0)], (take(1, 1, 1),))
        self.assert_told(["e", "a", "f"], [("bring", 0, 4, 2, 0), ("bring", 0, 0, 1, 1)],
                         (take(0, 4, 1), take(0, 0, 1), take(0, 5, 1)))
        self.assert_told(["a", "b", "B"], [("bring", 0, 0, 2, 0), ("bring", 1, 0, 1, 2)], (take(0, 0, 2), take(1, 0, 1)))
        for source, first, count, to in [
                (0, 6, 1, 0), (0, 5, 2, 0), (0, 0, 7, 0), (0, 0, 0, 0), (0, 6, 0, 0), (0, 0, 1, 1), (1, 2, 1, 0), (1, 0, 3, 0),
                (2, 0, 1, 0), (3, 0, 1, 0), (-1, 0, 1, 0), (0, -1, 1, 0), (0, 0, -1, 0), (0, 0, 1, -1),
                (digits(200), 0, 1, 0), (0, digits(200), 1, 0), (0, 0, digits(200), 0), (0, 0, 1, digits(200))]:
            self.assert_undoable([], ("bring", source, first, count, to), ["a"])
        self.assert_undoable([("write", 0, "a")], ("bring", 0, 0, 1, 2))

    def test_bring_from_no_ancestor(self):
        history = History([Version(["a"]), Version(["a"]), Version(["a"], parents=[1]), Version(["a"], parents=[2])])
        self.assert_same(telling_of(history, 3, [("bring", 1, 0, 1, 0)]), (take(1, 0, 1),))
        for number, sources in [(0, range(5)), (1, range(5)), (2, [0, 2, 3, 4]), (3, [0, 3, 4])]:
            for source in sources:
                deed = ("bring", source, 0, 1, 0)
                self.assert_refused(InvalidDeeds, deed, telling_of, history, number, [deed])

    def test_move(self):
        six = ("bring", 0, 0, 6, 0)
        self.assert_told(list("bcdefa"), [six, ("move", 0, 1, 5)], (take(0, 1, 5), take(0, 0, 1)))
        self.assert_told(list("fabcde"), [six, ("move", 5, 1, 0)], (take(0, 5, 1), take(0, 0, 5)))
        self.assert_told(list("aefbcd"), [six, ("move", 1, 3, 3)], (take(0, 0, 1), take(0, 4, 2), take(0, 1, 3)))
        self.assert_told(list("abcdef"), [six, ("move", 2, 3, 2)], (take(0, 0, 6),))
        self.assert_told(list("abcdef"), [six, ("move", 0, 6, 0)], (take(0, 0, 6),))
        self.assert_told(list("abcdef"), [six, ("move", 0, 2, 4), ("move", 4, 2, 0)], (take(0, 0, 6),))
        for at, count, to in [(6, 1, 0), (5, 2, 0), (0, 7, 0), (0, 0, 0), (0, 1, 6), (2, 3, 4), (0, 6, 1), (-1, 1, 0),
                              (0, -1, 0), (0, 1, -1), (0, digits(200), 0)]:
            self.assert_undoable([six], ("move", at, count, to))

    def test_copy(self):
        two = ("bring", 0, 0, 2, 0)
        self.assert_told(list("abab"), [two, ("copy", 0, 2, 2)], (take(0, 0, 2), take(0, 0, 2)))
        self.assert_told(list("abab"), [two, ("copy", 0, 2, 0)], (take(0, 0, 2), take(0, 0, 2)))
        self.assert_told(list("aabb"), [two, ("copy", 0, 2, 1)], (take(0, 0, 1), take(0, 0, 2), take(0, 1, 1)))
        self.assert_told(list("abb"), [two, ("copy", 1, 1, 2)], (take(0, 0, 2), take(0, 1, 1)))
        self.assert_told(list("axa"), [("write", 0, "a"), ("write", 1, "x"), ("copy", 0, 1, 2)], (NEW,) * 3)
        for at, count, to in [(2, 1, 0), (1, 2, 0), (0, 3, 0), (0, 0, 0), (0, 1, 3), (-1, 1, 0), (0, 1, -1), (0, -1, 0)]:
            self.assert_undoable([two], ("copy", at, count, to))

    def test_copies_with_their_links(self):
        """A copy of a line that was changed to an alike one keeps its link; later changes are to one of them only."""
        deeds = [("bring", 0, 0, 2, 0), ("change", 0, "A"), ("copy", 0, 2, 2), ("change", 3, "x")]
        self.assert_told(["A", "b", "A", "x"], deeds, (take(0, 0, 2), take(0, 0, 1), NEW), layout=FOLDED)
        self.assert_told(["A", "b", "A", "x"], deeds, (NEW, take(0, 1, 1), NEW, NEW))

    def test_remove(self):
        six = ("bring", 0, 0, 6, 0)
        self.assert_told(list("af"), [six, ("remove", 1, 4)], (take(0, 0, 1), take(0, 5, 1)))
        self.assert_told([], [six, ("remove", 0, 6)], ())
        self.assert_told(list("abcde"), [six, ("remove", 5, 1)], (take(0, 0, 5),))
        self.assert_told(list("ab"), [("bring", 0, 0, 1, 0), ("write", 1, "x"), ("bring", 0, 1, 1, 2), ("remove", 1, 1)],
                         (take(0, 0, 2),))
        for at, count in [(6, 1), (5, 2), (0, 7), (0, 0), (-1, 1), (0, -1), (6, 0), (0, digits(200))]:
            self.assert_undoable([six], ("remove", at, count))
        self.assert_undoable([], ("remove", 0, 1))
        self.assert_undoable([], ("move", 0, 1, 0))
        self.assert_undoable([], ("copy", 0, 1, 0))

    def test_longest_pieces(self):
        """Lines that are brought one by one make one piece where they follow each other."""
        one_by_one = [("bring", 0, at, 1, at) for at in range(6)]
        self.assert_told(list("abcdef"), one_by_one, (take(0, 0, 6),))
        self.assert_told(list("fedcba"), [("bring", 0, at, 1, 0) for at in range(6)],
                         tuple([take(0, at, 1) for at in reversed(range(6))]))
        self.assert_told(["a", "B", "x"], [("bring", 0, 0, 1, 0), ("bring", 1, 0, 2, 1)], (take(0, 0, 1), take(1, 0, 2)))

    def test_sources_with_lines_that_follow_each_other_by_number_only(self):
        history = History([Version(["a", "b"]), Version(["a", "b"], parents=[0]), Version(["a", "b"], parents=[1])])
        self.assert_same(telling_of(history, 2, [("bring", 0, 0, 1, 0), ("bring", 1, 1, 1, 1)]),
                         (take(0, 0, 1), take(1, 1, 1)))

    def test_pieces_that_would_be_shorter_than_the_least(self):
        six = ("bring", 0, 0, 6, 0)
        for least in range(1, 13):
            telling = (take(0, 0, 6),) if least <= 6 else (NEW,) * 6
            self.assert_told(list("abcdef"), [six], telling, least=least)
        deeds = [six, ("write", 3, "x"), ("remove", 6, 1), ("move", 0, 1, 5)]
        self.assert_told(list("bcxdea"), deeds, (take(0, 1, 2), NEW, take(0, 3, 2), take(0, 0, 1)))
        self.assert_told(list("bcxdea"), deeds, (take(0, 1, 2), NEW, take(0, 3, 2), NEW), least=2)
        self.assert_told(list("bcxdea"), deeds, (NEW,) * 6, least=3)

    def test_lines_on_the_way(self):
        six = ("bring", 0, 0, 6, 0)
        ten = [six] * 10
        empty = ("remove", 0, 60)
        self.assert_told(["a"], [*ten, empty, ("write", 0, "a")], (NEW,))
        self.assert_told(list("abcdef"), [*ten, ("move", 0, 30, 30), ("remove", 6, 54)], (take(0, 0, 6),))
        self.assert_told(list("a"), [*ten, ("change", 59, "x"), ("remove", 1, 59)], (take(0, 0, 1),))
        for deed in [("write", 0, "a"), ("write", 60, "a"), ("bring", 0, 0, 1, 0), ("bring", 0, 0, 6, 60),
                     ("copy", 0, 1, 0), ("copy", 0, 60, 60)]:
            self.assert_undoable(ten, deed)
        half = [*ten[:5], ("copy", 0, 30, 30)]
        self.assert_told([], [*half, empty], ())
        self.assert_undoable([*ten[:5], ("write", 0, "a")], ("copy", 0, 31, 0))
        self.assert_undoable([*ten[:9], ("write", 0, "a")], six)

    def test_number_of_deeds(self):
        deeds = [("write", 0, "a")] + [("change", 0, "b"), ("change", 0, "a")] * 99 + [("change", 0, "c")]
        self.assertEqual(len(deeds), 200)
        self.assert_told(["c"], deeds, (NEW,))
        history = history_of("c")
        for more in [[*deeds, ("change", 0, "c")], (*deeds, ("change", 0, "c")), [None] * 201, [("write", 9, "a")] * 300]:
            self.assert_refused(InvalidDeeds, more, telling_of, history, 2, more)

    def test_another_text_at_the_end(self):
        for lines, deeds in [
                (["a"], [("write", 0, "b")]), (["a"], [("write", 0, "A")]), (["a"], [("write", 0, "a"), ("write", 0, "a")]),
                (["a", "b"], [("write", 0, "a")]), ([], [("write", 0, "a")]), (["a"], [("bring", 0, 1, 1, 0)]),
                (["a", "b"], [("write", 0, "a"), ("write", 0, "b")])]:
            history = history_of(*lines)
            for value in [deeds, tuple(deeds)]:
                self.assert_refused(InvalidDeeds, value, telling_of, history, 2, value)
                self.assert_refused(InvalidDeeds, value, telling_of, history, 2, value, prices=Prices(layout=FOLDED))

    def test_a_version_without_ancestors(self):
        history = the_history()
        self.assert_same(telling_of(history, 0, [("write", 0, "b"), ("write", 0, "a")]), (NEW, NEW))

    def test_the_usual_prices(self):
        history = the_history()
        deeds = [("bring", 0, 0, 2, 0), ("move", 0, 1, 1)]
        for found in [telling_of(history, 1, deeds), telling_of(history, 1, deeds, prices=None),
                      telling_of(history, 1, deeds, prices=Prices()), telling_of(deeds=deeds, number=1, history=history)]:
            self.assert_same(found, (take(0, 1, 1), take(0, 0, 1)))
        with self.assertRaises(TypeError):
            telling_of(history, 1, deeds, Prices())
        self.assertEqual(telling_of.__module__, module.__name__)

    def test_many_deeds_beside_an_author(self):
        """Long rows of deeds, compared with an author who does them line by line."""
        source = random.Random(31)
        kept, taken = 0, 0
        for _ in range(1500):
            least, layout = source.choice([1, 1, 2, 3]), source.choice([FOLDED, FOLDED, Layout()])
            draft = History([Version(list("aAbc")), Version(["b", " a", "a", "c"], parents=[0]), Version([], parents=[1, 0])])
            author, deeds = Author(draft, 2, layout), []
            for _ in range(source.randint(0, 25)):
                deeds.append(author.some_deed(source))
                author.do(deeds[-1])
            if len(author.text) > 12:
                deeds.append(("remove", 12, len(author.text) - 12))
                author.do(deeds[-1])
            history = draft.amended(2, [line for line, _ in author.text])
            prices = Prices(layout=layout, least=least)
            links = [link for _, link in author.text]
            found = telling_of(history, 2, deeds, prices=prices)
            self.assert_same(found, pieces_of(links, least))
            if least == 1:
                self.assertEqual(links_of(history, 2, found, prices=prices), tuple(links))
            taken += any([part != NEW for part in found])
            kept += any([link and draft.version(link[0])[link[1]] != line for line, link in author.text])
        self.assertGreater(min(kept, taken), 50)

    def test_arguments_are_not_changed(self):
        history = history_of("b", "a")
        deeds = [("bring", 0, 0, 2, 0), ("move", 0, 1, 1), ("change", 0, "b")]
        copy = list(deeds)
        found = telling_of(history, 2, deeds)
        self.assertEqual([deeds, history], [copy, history_of("b", "a")])
        deeds.clear()
        self.assert_same(found, (take(0, 1, 1), take(0, 0, 1)))


class TestWrongValues(Case):

    def test_no_version(self):
        for history in [the_history(), History()]:
            for value in no_indices(len(history)):
                for deeds in [[], None, [None]]:
                    self.assert_refused(InvalidNumber, value, telling_of, history, value, deeds)
                    self.assert_refused(InvalidNumber, value, telling_of, history, value, deeds, prices="no")

    def test_no_prices(self):
        for value in NO_PRICES:
            for deeds in [[], None, [None], [("bring", 0, 0, 2, 0), ("move", 0, 1, 1)]]:
                self.assert_refused(InvalidPrices, value, telling_of, the_history(), 1, deeds, prices=value)

    def test_no_deeds(self):
        for value in NO_LISTINGS:
            self.assert_refused(InvalidDeeds, value, telling_of, the_history(), 1, value)

    def test_no_deed(self):
        wrong = [*NO_LISTINGS, [], (), ["write", 0, "a"], ("write",), ("write", 0), ("write", 0, "a", 0), ("writes", 0, "a"),
                 ("Write", 0, "a"), ("", 0, "a"), (None, 0, "a"), (b"write", 0, "a"), (RUDE, 0, "a"), (AGREEABLE, 0, "a"),
                 (RUDE,), (AGREEABLE,), ("change", 0), ("change", 0, "a", 1), ("bring", 0, 0, 1), ("bring", 0, 0, 1, 0, 0),
                 ("move", 0, 1), ("move", 0, 1, 0, 0), ("copy", 0, 1), ("copy", 0, 1, 0, 0), ("remove", 0),
                 ("remove", 0, 1, 0), ("take", 0, 0, 1), ("new",), (("write", 0, "a"),), (0, "write", "a")]
        for deed in wrong:
            for before in [[], [("write", 0, "a"), ("write", 0, "b")]]:
                self.assert_refused(InvalidDeeds, deed, telling_of, the_history(), 1, [*before, deed])
                self.assert_refused(InvalidDeeds, deed, telling_of, the_history(), 1, (*before, deed))
                self.assert_refused(InvalidDeeds, deed, telling_of, the_history(), 1, [*before, deed, None, ("write", 0)])

    def test_no_counts(self):
        """Each number of each deed must be a count; True and False are none."""
        deeds = [("write", 0, "a"), ("change", 0, "b"), ("bring", 0, 0, 1, 0), ("move", 0, 1, 0), ("copy", 0, 1, 0),
                 ("remove", 0, 1)]
        before = [("bring", 0, 0, 2, 0)]
        for right in deeds:
            for at in range(1, len(right)):
                if isinstance(right[at], int):
                    for value in [*NO_WHOLE_NUMBERS, Ratio(right[at]), -1, float(right[at])]:
                        wrong = right[:at] + (value,) + right[at + 1:]
                        self.assert_refused(InvalidDeeds, wrong, telling_of, the_history(), 1, [*before, wrong])

    def test_no_lines(self):
        for kind in ["write", "change"]:
            for line in [*NO_STRINGS, "a" * 41, "\n", "a\nb"]:
                wrong = (kind, 0, line)
                self.assert_refused(InvalidDeeds, wrong, telling_of, the_history(), 1, [("write", 0, "a"), wrong])

    def test_the_first_wrong_deed_counts(self):
        first, second = ("remove", 5, 1), ("write", 0, None)
        for deeds in [[first, second], [("write", 0, "a"), first, second, None]]:
            self.assert_refused(InvalidDeeds, first, telling_of, the_history(), 1, deeds)
            self.assert_refused(InvalidDeeds, second, telling_of, the_history(), 1, [("write", 0, "a"), second, first])

    def test_the_order_of_the_errors(self):
        number, prices, deeds = digits(30), object(), object()
        self.assert_refused(InvalidNumber, number, telling_of, the_history(), number, deeds, prices=prices)
        self.assert_refused(InvalidPrices, prices, telling_of, the_history(), 1, deeds, prices=prices)
        self.assert_refused(InvalidDeeds, deeds, telling_of, the_history(), 1, deeds)
