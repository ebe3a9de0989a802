"""Studies (point 10, the class of studies.py)."""

from lineorigins import studies
from lineorigins.errors import InvalidHistory, InvalidPrices
from lineorigins.histories import History, Version
from lineorigins.layouts import Layout
from lineorigins.prices import Prices
from lineorigins.studies import Study
from tests.support import AGREEABLE, RUDE, Case

HISTORY = History([Version(["a"]), Version(["b"], parents=[0])])
NO_HISTORIES = [None, True, 0, "", "version a -", (), [], [Version([])], Version([]), {}, object(), AGREEABLE, RUDE,
                History]
NO_PRICES = [True, False, 0, 1, "", (), [], {}, object(), AGREEABLE, RUDE, Prices, Layout(), HISTORY]


class TestStudy(Case):

    def test_properties(self):
        prices = Prices(piece=2)
        study = Study(HISTORY, prices=prices)
        self.assertEqual([study.history, study.prices], [HISTORY, prices])
        self.assertEqual(Study(history=HISTORY).prices, Prices())
        self.assertEqual(Study(HISTORY, prices=None).prices, Prices())
        self.assertEqual(Study(History()).history, History())
        self.assert_fixed(study, "history", "prices")
        self.assert_own_methods(Study, "__init__", "__eq__", "history", "prices")
        self.assertEqual(Study.__module__, studies.__name__)

    def test_prices_only_by_name(self):
        with self.assertRaises(TypeError):
            Study(HISTORY, Prices())

    def test_no_history(self):
        for value in NO_HISTORIES:
            self.assert_refused(InvalidHistory, value, Study, value)
            self.assert_refused(InvalidHistory, value, Study, history=value)

    def test_no_prices(self):
        for value in NO_PRICES:
            self.assert_refused(InvalidPrices, value, Study, HISTORY, prices=value)

    def test_wrong_history_comes_first(self):
        for value in NO_HISTORIES:
            self.assert_refused(InvalidHistory, value, Study, value, prices="no")

    def test_equality(self):
        self.assert_equal_objects(Study(HISTORY), Study(History(list(HISTORY)), prices=Prices()))
        self.assert_unequal(Study(HISTORY), Study(HISTORY, prices=Prices(piece=2)))
        self.assert_unequal(Study(HISTORY), Study(HISTORY, prices=Prices(layout=Layout(folded=True))))
        self.assert_unequal(Study(HISTORY), Study(History()))
        for value in [None, HISTORY, Prices(), (HISTORY, Prices()), AGREEABLE, object(), Study]:
            self.assert_unequal(Study(HISTORY), value)
