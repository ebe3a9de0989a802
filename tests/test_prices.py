"""Prices (point 8, prices.py, and point 3 k)."""

from lineorigins import prices as module
from lineorigins.errors import InvalidLayout, InvalidNumber, InvalidText
from lineorigins.layouts import Layout
from lineorigins.prices import Prices
from lineorigins.ratios import Ratio
from tests.examples import run_example
from tests.support import AGREEABLE, NO_STRINGS, NO_WHOLE_NUMBERS, RUDE, Case, digits

EXAMPLE = """
>>> from lineorigins.prices import Prices
>>> prices = Prices.from_text('piece 3/2 far 0 alike 1 least 2')
>>> [prices.piece.text, prices.least, prices.with_piece(2).text]
['3/2', 2, 'piece 2 far 0 alike 1 least 2']
"""
NO_PIECES = [*NO_WHOLE_NUMBERS, 0, -1, Ratio(0), Ratio(-1, 2), -digits(200)]
NO_ADDITIONS = [*NO_WHOLE_NUMBERS, -1, Ratio(-1, 100), -digits(200)]
NO_LEASTS = [*NO_WHOLE_NUMBERS, 0, 13, -1, Ratio(1), Ratio(2), Ratio(3, 2), digits(200)]
NO_LAYOUTS = [True, False, 0, "", " ", (), [], {}, object(), AGREEABLE, RUDE, Layout, Prices]
FOLDED = Layout(ignored=" ", folded=True)


def all_of(prices):
    return [prices.piece, prices.far, prices.alike, prices.least, prices.layout]


class TestPrices(Case):

    def test_example(self):
        self.assertEqual(*run_example(EXAMPLE))

    def test_usual_prices(self):
        self.assert_same(all_of(Prices()), [Ratio(1), Ratio(0), Ratio(0), 1, Layout()])
        self.assert_same(all_of(Prices(layout=None)), [Ratio(1), Ratio(0), Ratio(0), 1, Layout()])

    def test_properties(self):
        prices = Prices(piece=Ratio(1, 2), far=3, alike=Ratio(4, 6), least=12, layout=FOLDED)
        self.assert_same(all_of(prices), [Ratio(1, 2), Ratio(3), Ratio(2, 3), 12, FOLDED])
        self.assert_fixed(prices, "piece", "far", "alike", "least", "layout", "text")
        self.assert_own_methods(Prices, "__init__", "__eq__", "with_piece", "from_text", "piece", "far", "alike",
                                "least", "layout", "text")
        self.assertIsInstance(vars(Prices)["from_text"], classmethod)
        self.assertEqual(Prices.__module__, module.__name__)

    def test_only_by_name(self):
        with self.assertRaises(TypeError):
            Prices(1)
        with self.assertRaises(TypeError):
            Prices.from_text("piece 1 far 0 alike 0 least 1", FOLDED)

    def test_edges(self):
        for piece in [1, Ratio(1, 10 ** 199), digits(200), Ratio(1, digits(200))]:
            self.assertEqual(Prices(piece=piece).piece, piece)
        for extra in [0, 1, Ratio(0), Ratio(1, 7), digits(200)]:
            prices = Prices(far=extra, alike=extra)
            self.assertEqual([prices.far, prices.alike], [extra, extra])
        for least in range(1, 13):
            self.assert_same(Prices(least=least).least, least)

    def test_wrong_numbers(self):
        for value in NO_PIECES:
            self.assert_refused(InvalidNumber, value, Prices, piece=value)
        for value in NO_ADDITIONS:
            self.assert_refused(InvalidNumber, value, Prices, far=value)
            self.assert_refused(InvalidNumber, value, Prices, alike=value)
        for value in NO_LEASTS:
            self.assert_refused(InvalidNumber, value, Prices, least=value)

    def test_wrong_layouts(self):
        for value in NO_LAYOUTS:
            self.assert_refused(InvalidLayout, value, Prices, layout=value)

    def test_order_of_errors(self):
        wrong = {"layout": "no", "least": 0.5, "alike": -1, "far": -2, "piece": 0}
        for name in ["piece", "far", "alike", "least"]:
            self.assert_refused(InvalidNumber, wrong[name], Prices, **wrong)
            del wrong[name]
        self.assert_refused(InvalidLayout, "no", Prices, **wrong)

    def test_text(self):
        for prices, wanted in [
                (Prices(), "piece 1 far 0 alike 0 least 1"),
                (Prices(piece=Ratio(3, 2), far=2, alike=Ratio(1, 3), least=12), "piece 3/2 far 2 alike 1/3 least 12"),
                (Prices(layout=FOLDED), "piece 1 far 0 alike 0 least 1")]:
            self.assert_same(prices.text, wanted)

    def test_equality(self):
        prices = Prices(piece=2, far=3, alike=4, least=5, layout=FOLDED)
        same = {"piece": Ratio(2), "far": Ratio(3), "alike": Ratio(4), "least": 5,
                "layout": Layout(folded=True, ignored=" ")}
        self.assert_equal_objects(prices, Prices(**same))
        for name in ["piece", "far", "alike", "least"]:
            self.assert_unequal(prices, Prices(**{**same, name: 7}))
        self.assert_unequal(prices, Prices(**{**same, "layout": None}))
        for value in [None, prices.text, 1, Layout(), AGREEABLE, object(), Prices]:
            self.assert_unequal(Prices(), value)

    def test_with_piece(self):
        prices = Prices(piece=2, far=3, alike=4, least=5, layout=FOLDED)
        other = prices.with_piece(Ratio(1, 2))
        self.assert_same(all_of(other), [Ratio(1, 2), Ratio(3), Ratio(4), 5, FOLDED])
        self.assertEqual(prices, Prices(piece=2, far=3, alike=4, least=5, layout=FOLDED))
        self.assertEqual(prices.with_piece(piece=2), prices)
        for value in NO_PIECES:
            self.assert_refused(InvalidNumber, value, prices.with_piece, value)
            self.assert_refused(InvalidNumber, value, prices.with_piece, piece=value)


class TestReading(Case):

    def assert_wrong(self, text, cause=None, **more):
        """The text is wrong; the cause is the word that is read as no ratio, if that is why."""
        error = self.assert_refused(InvalidText, text, Prices.from_text, text, **more)
        if cause is None:
            self.assertIsNone(error.__cause__)
        else:
            self.assertIs(type(error.__cause__), InvalidText)
            self.assert_same(error.__cause__.value, cause)

    def test_read_back(self):
        most = digits(200)
        for piece in [1, 2, Ratio(3, 2), Ratio(1, most), most]:
            for far in [0, Ratio(5, 7), most]:
                for alike in [0, 4, Ratio(most, most - 1)]:
                    for least in [1, 9, 10, 12]:
                        prices = Prices(piece=piece, far=far, alike=alike, least=least, layout=FOLDED)
                        read = Prices.from_text(prices.text, layout=prices.layout)
                        self.assertIs(type(read), Prices)
                        self.assertEqual(read, prices)
                        self.assert_same(read.text, prices.text)

    def test_by_name_and_layouts(self):
        text = "piece 1 far 0 alike 0 least 1"
        self.assertEqual(Prices.from_text(text=text), Prices())
        self.assertEqual(Prices.from_text(text, layout=None), Prices())
        self.assertEqual(Prices.from_text(text, layout=FOLDED), Prices(layout=FOLDED))

    def test_no_text(self):
        for value in [*NO_STRINGS, Prices()]:
            self.assert_wrong(value)
            self.assert_refused(InvalidText, value, Prices.from_text, text=value)

    def test_other_words(self):
        for text in ["", " ", "piece", "1 0 0 1", "piece 1 far 0 alike 0", "piece 1 far 0 alike 0 least",
                     "piece 1 far 0 alike 0 least 1 ", " piece 1 far 0 alike 0 least 1", "piece 1 far 0 alike 0 least 1 x",
                     "far 0 piece 1 alike 0 least 1", "Piece 1 far 0 alike 0 least 1", "piece x far 0 alike 0 leasd 1",
                     "piece x far x alike x 1 least", "piece  1 far 0 alike 0 least 1", "piece 1 far 0 alike 0 least 1\n",
                     "piece 1  far 0 alike 0 least 1", "piece\n1 far 0 alike 0 least 1", "piece,1,far,0,alike,0,least,1",
                     "x x x x x x x x", "       ", "piece 1 alike 0 far 0 least 1", "piece 01 far"]:
            with self.subTest(text=text):
                self.assert_wrong(text)

    def test_prices_that_are_not_read(self):
        for word in ["", "x", "01", "2/4", "3/1", "-0", "+1", "1/0", "1.5", "/", "1/", "piece", "9" * 201,
                     "1/" + "9" * 201]:
            with self.subTest(word=word):
                self.assert_wrong(f"piece {word} far 0 alike 0 least 1", word)
                self.assert_wrong(f"piece 1 far {word} alike 0 least 1", word)
                self.assert_wrong(f"piece 1 far 0 alike {word} least 1", word)
                self.assert_wrong(f"piece {word} far ? alike ! least 0", word)
                self.assert_wrong(f"piece 1 far {word} alike ! least x", word)
                self.assert_wrong(f"piece 1 far 0 alike {word} least 99", word)

    def test_two_spaces(self):
        self.assert_wrong("piece  far 0 alike 0 least 1", "")
        self.assert_wrong("piece 1 far  alike 0 least 1", "")
        self.assert_wrong("piece 1 far 0 alike  least 1", "")
        self.assert_wrong("piece 1 far 0 alike 0 least ")

    def test_numbers_that_are_no_such_prices(self):
        for text in ["piece 0 far 0 alike 0 least 1", "piece -1 far 0 alike 0 least 1", "piece -1/2 far 0 alike 0 least 1",
                     "piece 1 far -1 alike 0 least 1", "piece 1 far 0 alike -1/3 least 1"]:
            self.assert_wrong(text)

    def test_wrong_least(self):
        for word in ["", "0", "13", "-1", "01", "1/2", "2/1", "x", "1.0", "+1", "012", "100", "\u0661", "9" * 201,
                     "12/1"]:
            with self.subTest(word=word):
                self.assert_wrong(f"piece 1 far 0 alike 0 least {word}")
        for least in range(1, 13):
            self.assert_same(Prices.from_text(f"piece 1 far 0 alike 0 least {least}").least, least)

    def test_first_wrong_one_decides_on_the_cause(self):
        self.assert_wrong("piece 0 far x alike x least x")
        self.assert_wrong("piece x far -1 alike x least x", "x")
        self.assert_wrong("piece 1 far -1 alike x least x")
        self.assert_wrong("piece 1 far 0 alike -1 least x")
        self.assert_wrong("piece 1 far y alike -1 least 0", "y")

    def test_200_digits_and_201(self):
        most, beyond = digits(200), digits(201)
        self.assertEqual(Prices.from_text(f"piece {most} far 0 alike 0 least 1").piece, most)
        self.assert_wrong(f"piece {beyond} far 0 alike 0 least 1", str(beyond))
        self.assert_wrong(f"piece 1 far 1/{beyond} alike 0 least 1", f"1/{beyond}")

    def test_wrong_layout_comes_last(self):
        for value in NO_LAYOUTS:
            self.assert_refused(InvalidLayout, value, Prices.from_text, "piece 1 far 0 alike 0 least 1", layout=value)
            self.assert_wrong("piece 1 far x alike 0 least 1", "x", layout=value)
            self.assert_wrong("piece 1 far 0 alike 0 least 0", layout=value)
            self.assert_refused(InvalidText, None, Prices.from_text, None, layout=value)
