"""Tellings of a version (point 9 and tellings.py)."""

import itertools

from lineorigins import tellings as module
from lineorigins.errors import InvalidNumber, InvalidPrices, InvalidTelling
from lineorigins.histories import History, Version
from lineorigins.layouts import Layout
from lineorigins.prices import Prices
from lineorigins.ratios import Ratio
from lineorigins.tellings import is_telling, links_of, price_of
from tests.examples import run_example
from tests.support import AGREEABLE, NO_WHOLE_NUMBERS, RUDE, Case, digits

EXAMPLE = """
>>> from lineorigins.histories import History, Version
>>> from lineorigins.tellings import is_telling, links_of, price_of
>>> history = History([Version(['a', 'b']), Version(['b', 'a'], parents=[0], author='ann'), Version(['a'], parents=[1])])
>>> telling = (('take', 0, 1, 1), ('new',))
>>> [is_telling(history, 1, telling), price_of(history, 1, telling).text, links_of(history, 1, telling)]
[True, '2', ((0, 1), None)]
"""
NEW = ("new",)
NO_PRICES = [True, False, 0, 1, "", "piece 1 far 0 alike 0 least 1", (), [], {}, object(), AGREEABLE, RUDE, Prices,
             Layout(), Ratio(1)]
FOLDED = Layout(ignored=" ", folded=True)


def take(source, first, length):
    return ("take", source, first, length)


def some_history():
    """Version 3 has the parents 1 and 2 and the farther ancestor 0; version 4 stands aside."""
    return History([
        Version(["a", "b", "c", "a"]),
        Version(["b", "a"], parents=[0]),
        Version(["c", "x"]),
        Version(["b", "c", "a", "x", "b", "a"], parents=[1, 2]),
        Version(["b", "c"]),
        Version([], parents=[3])])


class TestTelling(Case):

    def assert_telling(self, number, telling, price, links, history=None, prices=None):
        history = history or some_history()
        more = {} if prices is None else {"prices": prices}
        self.assertIs(is_telling(history, number, telling, **more), True)
        found = price_of(history, number, telling, **more)
        self.assertIs(type(found), Ratio)
        self.assertEqual(found, price)
        self.assert_same(links_of(history, number, telling, **more), links)

    def assert_no_telling(self, number, value, history=None, prices=None):
        history = history or some_history()
        self.assertIs(is_telling(history, number, value, prices=prices), False)
        for ask in [price_of, links_of]:
            self.assert_refused(InvalidTelling, value, ask, history, number, value, prices=prices)

    def test_example(self):
        self.assertEqual(*run_example(EXAMPLE))

    def test_new_lines(self):
        self.assert_telling(0, (NEW,) * 4, 4, (None,) * 4)
        self.assert_telling(5, (), 0, ())
        for telling in [(NEW,) * 3, (NEW,) * 5, ()]:
            self.assert_no_telling(0, telling)
        self.assert_no_telling(5, (NEW,))

    def test_pieces(self):
        self.assert_telling(1, (take(0, 1, 1), take(0, 0, 1)), 2, ((0, 1), (0, 0)))
        self.assert_telling(1, (take(0, 1, 1), take(0, 3, 1)), 2, ((0, 1), (0, 3)))
        self.assert_telling(3, (take(0, 1, 3), take(2, 1, 1), take(1, 0, 2)), 3,
                            ((0, 1), (0, 2), (0, 3), (2, 1), (1, 0), (1, 1)))
        self.assert_telling(3, (take(1, 0, 1), NEW, take(1, 1, 1), NEW, take(1, 0, 2)), 5,
                            ((1, 0), None, (1, 1), None, (1, 0), (1, 1)))

    def test_price_is_the_sum(self):
        prices = Prices(piece=Ratio(1, 2), far=Ratio(1, 3), alike=Ratio(1, 7))
        self.assert_telling(3, (take(0, 1, 3), take(2, 1, 1), NEW, NEW), Ratio(5, 6) + Ratio(1, 2) + 2,
                            ((0, 1), (0, 2), (0, 3), (2, 1), None, None), prices=prices)
        self.assert_telling(3, (take(1, 0, 1), take(2, 0, 1), NEW, NEW, NEW, NEW), 5,
                            ((1, 0), (2, 0), None, None, None, None), prices=prices)

    def test_two_new_lines_and_a_piece_with_equal_prices(self):
        self.assert_telling(3, (NEW, NEW, NEW, NEW, take(1, 0, 2)), 5, (None,) * 4 + ((1, 0), (1, 1)))

    def test_only_ancestors(self):
        for source in [3, 4, 5, 6, 99, digits(200)]:
            self.assert_no_telling(3, (take(source, 0, 1), take(source, 0, 1), NEW, NEW, NEW, NEW))
        self.assert_no_telling(3, (take(4, 0, 2), NEW, NEW, NEW, NEW))
        self.assert_no_telling(1, (take(3, 0, 1), NEW))
        self.assert_no_telling(0, (take(0, 0, 1), NEW, NEW, NEW))
        self.assert_no_telling(4, (take(0, 1, 2),))

    def test_within_the_source_and_the_text(self):
        self.assert_no_telling(1, (NEW, take(0, 3, 2)))
        self.assert_no_telling(1, (NEW, take(0, 4, 1)))
        self.assert_no_telling(1, (NEW, take(0, digits(200), 1)))
        self.assert_no_telling(1, (NEW, take(0, 0, digits(200))))
        self.assert_no_telling(3, (NEW, NEW, NEW, NEW, take(0, 1, 3)))
        self.assert_no_telling(1, (NEW, NEW, take(0, 0, 1)))
        history = History([Version(["a", "a", "a"]), Version(["a", "a"], parents=[0]), Version(["a"] * 3, parents=[1])])
        self.assert_telling(1, (take(0, 1, 2),), 1, ((0, 1), (0, 2)), history)
        self.assert_no_telling(1, (take(0, 0, 3),), history)
        self.assert_no_telling(1, (take(0, 2, 2),), history)
        self.assert_no_telling(1, (take(0, 0, 2), take(0, 0, 1)), history)
        self.assert_no_telling(1, (take(0, 0, 2), NEW), history)
        self.assert_no_telling(2, (take(1, 0, 3),), history)
        self.assert_no_telling(2, (take(1, 1, 2), NEW), history)
        self.assert_telling(2, (take(0, 0, 3),), 1, ((0, 0), (0, 1), (0, 2)), history)

    def test_lines_that_differ(self):
        self.assert_no_telling(1, (take(0, 0, 1), NEW))
        self.assert_no_telling(3, (take(0, 1, 2), take(0, 2, 2), NEW, NEW))
        self.assert_no_telling(3, (take(0, 1, 3), take(2, 0, 1), NEW, NEW))

    def test_least(self):
        history = History([Version(["a"] * 12), Version(["a"] * 12, parents=[0])])
        for least in range(1, 13):
            prices = Prices(least=least)
            for length in range(1, 13):
                telling = (take(0, 0, length),) + (NEW,) * (12 - length)
                if length >= least:
                    links = tuple([(0, index) for index in range(length)]) + (None,) * (12 - length)
                    self.assert_telling(1, telling, 13 - length, links, history, prices)
                else:
                    self.assert_no_telling(1, telling, history, prices)
        self.assert_no_telling(1, (take(0, 0, 0),) + (NEW,) * 12, history)
        self.assert_no_telling(1, (take(0, 0, 0), take(0, 0, 12)), history)
        self.assert_no_telling(1, (take(0, 0, 12), take(0, 0, 0)), history)

    def test_alike_lines(self):
        history = History([Version(["if x", "End", ""]), Version(["IF X", "End", "  "], parents=[0]),
                           Version(["ifx", "end"], parents=[1])])
        self.assert_no_telling(1, (take(0, 0, 3),), history)
        self.assert_no_telling(1, (NEW, take(0, 1, 2),), history)
        links = ((0, 0), (0, 1), (0, 2))
        self.assert_telling(1, (take(0, 0, 3),), 1, links, history, Prices(layout=FOLDED))
        self.assert_telling(1, (take(0, 0, 3),), 5, links, history, Prices(layout=FOLDED, alike=2))
        self.assert_telling(1, (take(0, 0, 2), take(0, 2, 1)), 2 + Ratio(2, 3), links, history,
                            Prices(layout=FOLDED, alike=Ratio(1, 3)))
        self.assert_telling(1, (NEW, take(0, 1, 1), NEW), 3, (None, (0, 1), None), history,
                            Prices(layout=FOLDED, alike=9))
        self.assert_telling(2, (take(0, 0, 2),), Ratio(1, 2) + 5 + 2 * 3, ((0, 0), (0, 1)), history,
                            Prices(piece=Ratio(1, 2), far=5, alike=3, layout=FOLDED))
        self.assert_telling(2, (take(1, 0, 1), take(0, 1, 1)), 1 + 5 + 2 * 3, ((1, 0), (0, 1)), history,
                            Prices(piece=Ratio(1, 2), far=5, alike=3, layout=FOLDED))
        self.assert_no_telling(2, (take(1, 0, 2),), history, Prices(layout=Layout(folded=True)))

    def test_sources_that_are_no_parent(self):
        history = History([Version(["a"]), Version(["a"], parents=[0]), Version(["a"], parents=[1]),
                           Version(["a"], parents=[2, 0])])
        prices = Prices(piece=2, far=10)
        for source, price in [(0, 2), (1, 12), (2, 2)]:
            self.assert_telling(3, (take(source, 0, 1),), price, ((source, 0),), history, prices)
        for source, price in [(0, 12), (1, 2)]:
            self.assert_telling(2, (take(source, 0, 1),), price, ((source, 0),), history, prices)

    def test_every_telling_of_a_small_version(self):
        history = History([Version(["a", "b"]), Version(["b"], parents=[0]), Version(["a", "b", "a"], parents=[1])])
        prices = Prices(piece=Ratio(1, 3), far=1)
        sources = {(0, 0): "a", (0, 1): "b", (1, 0): "b"}
        tellings = {}
        for telling, links, price in self.tellings_from(0, ["a", "b", "a"], sources):
            self.assert_telling(2, telling, price, links, history, prices)
            tellings[telling] = links
        self.assertEqual(len(tellings), 14)
        parts = [NEW] + [take(source, first, length)
                         for source in range(3) for first in range(3) for length in range(4)]
        for many in range(4):
            for value in itertools.product(parts, repeat=many):
                self.assertIs(is_telling(history, 2, value, prices=prices), value in tellings)

    def tellings_from(self, point, lines, sources):
        """All tellings of the lines behind a point, found without the program, with links and prices."""
        if point == len(lines):
            yield (), (), Ratio(0)
            return
        steps = [(NEW, (None,), Ratio(1))]
        for source, first in sources:
            links = ()
            while (source, first + len(links)) in sources and point + len(links) < len(lines) and (
                    sources[source, first + len(links)] == lines[point + len(links)]):
                links += ((source, first + len(links)),)
                price = Ratio(1, 3) if source == 1 else Ratio(4, 3)
                steps.append((take(source, first, len(links)), links, price))
        for part, links, price in steps:
            for rest, more, total in self.tellings_from(point + len(links), lines, sources):
                yield (part,) + rest, links + more, price + total

    def test_by_name(self):
        history, telling = some_history(), (NEW, NEW)
        self.assertIs(is_telling(prices=None, value=telling, number=1, history=history), True)
        self.assertEqual(price_of(prices=None, telling=telling, number=1, history=history), 2)
        self.assertEqual(links_of(prices=Prices(), telling=telling, number=1, history=history), (None, None))
        for ask in [is_telling, price_of, links_of]:
            self.assertEqual(ask.__module__, module.__name__)
            with self.assertRaises(TypeError):
                ask(history, 1, telling, Prices())


class TestWrongValues(Case):

    def assert_no_telling(self, value):
        history = some_history()
        self.assertIs(is_telling(history, 1, value), False)
        for ask in [price_of, links_of]:
            self.assert_refused(InvalidTelling, value, ask, history, 1, value)
            self.assert_refused(InvalidTelling, value, ask, history, telling=value, number=1)

    def test_no_tuples(self):
        for value in [None, True, 0, "new", "", [], [NEW, NEW], {}, {NEW: NEW}, set(), object(), AGREEABLE, RUDE,
                      iter([NEW, NEW]), tuple]:
            self.assert_no_telling(value)

    def test_wrong_parts(self):
        for part in [None, True, 0, "new", "", [], ["new"], (), (None,), ("",), ("New",), ("new ",), ("new", 1),
                     ("new", None), ("take",), ("take", 0, 1), ("take", 0, 1, 1, 1), ["take", 0, 1, 1], (b"new",),
                     ("Take", 0, 1, 1), ("new", 0, 1, 1), (None, 0, 1, 1), (("take",), 0, 1, 1), (["new"],),
                     {"new": 1}, object(), AGREEABLE, RUDE, (AGREEABLE,), (RUDE,), (AGREEABLE, 0, 1, 1),
                     (RUDE, 0, 1, 1), (AGREEABLE,) * 4, "take"]:
            self.assert_no_telling((part, NEW))
            self.assert_no_telling((NEW, part))
            self.assert_no_telling((NEW, NEW, part))

    def test_wrong_numbers_in_parts(self):
        right = ("take", 0, 1, 1)
        self.assertIs(is_telling(some_history(), 1, (right, NEW)), True)
        for at in [1, 2, 3]:
            for value in [*NO_WHOLE_NUMBERS, -1, Ratio(0), Ratio(1), digits(200)]:
                self.assert_no_telling((right[:at] + (value,) + right[at + 1:], NEW))

    def test_true_and_false_in_parts(self):
        history = History([Version(["a", "a"]), Version(["a", "a"], parents=[0]), Version(["a"], parents=[1])])
        for part in [("take", False, 0, 1), ("take", True, 0, 1), ("take", 0, False, 1), ("take", 0, True, 1),
                     ("take", 0, 0, True), ("take", 1, True, True)]:
            self.assertIs(is_telling(history, 2, (part,)), False)
            for ask in [price_of, links_of]:
                telling = (part,)
                self.assert_refused(InvalidTelling, telling, ask, history, 2, telling)

    def test_negative_numbers(self):
        for part in [take(-1, 1, 1), take(0, -3, 1), take(0, 1, -1), take(-5, 1, 1), take(0, -1, 1)]:
            self.assert_no_telling((part, NEW))
            self.assert_no_telling((NEW, part))

    def test_no_such_number(self):
        history = some_history()
        for value in [*NO_WHOLE_NUMBERS, -1, 6, 10, digits(200), Ratio(1)]:
            for ask in [is_telling, price_of, links_of]:
                self.assert_refused(InvalidNumber, value, ask, history, value, (NEW, NEW))
                self.assert_refused(InvalidNumber, value, ask, history, value, None, prices="no")
        for ask in [is_telling, price_of, links_of]:
            self.assert_refused(InvalidNumber, 0, ask, History(), 0, ())

    def test_no_prices(self):
        history = some_history()
        for value in NO_PRICES:
            for ask in [is_telling, price_of, links_of]:
                self.assert_refused(InvalidPrices, value, ask, history, 1, (NEW, NEW), prices=value)
                self.assert_refused(InvalidPrices, value, ask, history, 1, None, prices=value)
