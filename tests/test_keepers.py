"""Keepers (points 22 and 3 (h), and keepers.py)."""

import random

from lineorigins import keepers as module
from lineorigins.errors import (
    InvalidHistory, InvalidNumber, InvalidPrices, InvalidText, InvalidVersion, LineError, NothingToUndo, TooMany)
from lineorigins.histories import History, Version
from lineorigins.keepers import Keeper
from lineorigins.layouts import Layout
from lineorigins.origins import origins
from lineorigins.prices import Prices
from lineorigins.ratios import Ratio
from lineorigins.studies import Study
from tests.examples import run_example
from tests.listing import Listing
from tests.samples import FOLDED, HALF, PRICES, long_history, long_studies, merged_history, some_history, the_history
from tests.support import AGREEABLE, NO_LISTINGS, RUDE, Case, digits, no_indices

EXAMPLE = """
>>> from lineorigins.histories import History, Version
>>> from lineorigins.ratios import Ratio
>>> from lineorigins.prices import Prices
>>> from lineorigins.keepers import Keeper
>>> history = History([Version(['a', 'b']), Version(['b', 'a'], parents=[0], author='ann'), Version(['a'], parents=[1])])
>>> keeper = Keeper(history, prices=Prices(piece=Ratio(1, 2)))
>>> changed = keeper.amend(0, ['a', 'c'])
>>> keeper.undo()
>>> [changed, keeper.history == history, keeper.later(0)]
[((1, 0),), True, (1, 2)]
"""
PROPERTIES = ["history", "study", "rates"]
NO_PRICES = [None, True, False, 0, 1, "", "piece 1 far 0 alike 0 least 1", (), [], Prices, Layout(), RUDE, AGREEABLE]
NO_VERSIONS = [None, True, 0, "", "a", (), [], ["a"], Version, History(), RUDE, AGREEABLE]
NO_TEXTS = [*NO_LISTINGS, ["a"] * 13, ["a\n"], ["a" * 41], [None], [True], [b"a"], [["a"]], [RUDE], [AGREEABLE], (0,)]


class Stop(BaseException):
    """Ends a block, and is no Exception."""


def all_origins(history, prices):
    """The possible origins of all lines, found without the program."""
    return Listing(history, prices).origins()


def differing(before, after):
    """The places whose origins differ; a place at which there is no line has none."""
    return tuple(sorted([place for place in {**before, **after} if before.get(place) != after.get(place)]))


def some_lines(source):
    return [source.choice("abA") for _ in range(source.choice([0, 1, 1, 2, 2, 3]))]


def some_version(source, size):
    parents = source.sample(range(size), min(size, source.choice([0, 1, 1, 2])))
    return Version(some_lines(source), parents=parents, author=source.choice(["ann", "bob"]))


class Model:
    """What a keeper should do: all states are kept, and origins are found without the program."""

    def __init__(self, history, prices):
        self.history, self.prices = history, prices
        self.past = []

    def become(self, history, prices):
        self.past.append((self.history, self.prices))
        self.history, self.prices = history, prices

    def undo(self):
        self.history, self.prices = self.past.pop()

    def perform(self, kind, value):
        if kind == "follow":
            self.become(History([*self.history, value]), self.prices)
        elif kind == "reprice":
            self.become(self.history, value)
        elif kind == "undo":
            self.undo()
        else:
            versions = list(self.history)
            old = versions[kind]
            versions[kind] = Version(value, parents=old.parents, author=old.author)
            self.become(History(versions), self.prices)

    def state(self):
        return self.history, self.prices, list(self.past)

    def origins(self):
        return all_origins(self.history, self.prices)


class KeeperCase(Case):

    def assert_like(self, keeper, model):
        """The keeper has the model's history and prices, and a study of them."""
        self.assert_equal_objects(keeper.history, model.history)
        self.assert_equal_objects(keeper.rates, model.prices)
        self.assert_equal_objects(keeper.study, Study(model.history, prices=model.prices))

    def assert_undoable(self, keeper, times):
        """Just so many changes can be undone."""
        for _ in range(times):
            self.assertIsNone(keeper.undo())
        self.assert_nothing_to_undo(keeper)

    def assert_nothing_to_undo(self, keeper):
        study = keeper.study
        with self.assertRaises(NothingToUndo) as caught:
            keeper.undo()
        self.assertEqual(vars(caught.exception), {})
        self.assertIs(keeper.study, study)

    def assert_change_refused(self, keeper, error, value, call, *args, field="value"):
        """The error is raised, the keeper is as before, and the change that was made last is undone next."""
        study = keeper.study
        keeper.follow(Version(["marked"]))
        marked = keeper.study
        self.assert_refused(error, value, call, *args, field=field)
        self.assertIs(keeper.study, marked)
        keeper.undo()
        self.assert_equal_objects(keeper.study, study)


class TestChanges(KeeperCase):

    def test_example(self):
        self.assertEqual(*run_example(EXAMPLE))

    def test_new_keeper(self):
        keeper = Keeper(the_history())
        self.assert_like(keeper, Model(the_history(), Prices()))
        self.assert_nothing_to_undo(keeper)
        keeper = Keeper(prices=Prices(piece=HALF), history=the_history())
        self.assert_like(keeper, Model(the_history(), Prices(piece=HALF)))
        keeper = Keeper(History(), prices=None)
        self.assert_like(keeper, Model(History(), Prices()))

    def test_properties(self):
        keeper = Keeper(the_history())
        self.assert_fixed(keeper, "history", "study")
        self.assert_own_methods(Keeper, "__init__", *PROPERTIES, "follow", "amend", "reprice", "undo", "trial", "attempt",
                                "later")
        self.assertIsInstance(vars(Keeper)["rates"], property)
        self.assertEqual(Keeper.__module__, module.__name__)

    def test_follow(self):
        keeper = Keeper(the_history(), prices=Prices(piece=HALF))
        before = keeper.study
        version = Version(["b"], parents=[2, 0])
        self.assert_same(keeper.follow(version), 3)
        self.assertEqual(keeper.history, the_history().followed(version))
        self.assert_same(origins(keeper.study, 3, 0), ((0, 1),))
        self.assert_same(keeper.follow(version=Version(["b"])), 4)
        self.assertEqual(len(before.history), 3)
        self.assert_undoable(keeper, 2)
        self.assert_equal_objects(keeper.study, before)

    def test_follow_changes_no_other_line(self):
        source = random.Random(2)
        for _ in range(60):
            history, prices = some_history(source), source.choice(PRICES)
            keeper = Keeper(history, prices=prices)
            before = {place: origins(keeper.study, *place) for place in Listing(history, prices).places}
            number = keeper.follow(some_version(source, len(history)))
            self.assertEqual(number, len(history))
            self.assertEqual({place: origins(keeper.study, *place) for place in before}, before)

    def test_amend(self):
        keeper = Keeper(the_history(), prices=Prices(piece=HALF))
        self.assert_same(keeper.amend(0, ["a", "c"]), ((1, 0),))
        self.assertEqual(keeper.history.version(0).lines, ("a", "c"))
        self.assert_same(keeper.amend(lines=["a", "c", "b"], number=0), ((0, 2), (1, 0)))
        self.assert_same(keeper.amend(0, []), ((0, 0), (0, 1), (0, 2), (1, 0), (1, 1), (2, 0)))
        self.assert_same(keeper.amend(2, ("a", "b", "c")), ((2, 1), (2, 2)))
        self.assert_same(keeper.amend(2, ("b", "a", "d")), ((2, 0), (2, 1)))
        self.assertEqual(keeper.history.version(2), Version(["b", "a", "d"], parents=[1]))
        self.assert_undoable(keeper, 5)
        self.assertEqual(keeper.history, the_history())

    def test_reprice(self):
        keeper = Keeper(the_history(), prices=Prices(piece=HALF))
        self.assert_same(keeper.reprice(Prices()), ((1, 0), (1, 1), (2, 0)))
        self.assert_same(keeper.reprice(prices=Prices(far=5)), ())
        self.assertEqual(keeper.rates, Prices(far=5))
        self.assert_same(keeper.reprice(Prices(piece=2)), ((1, 0), (1, 1), (2, 0)))
        self.assert_undoable(keeper, 3)
        self.assertEqual(keeper.rates, Prices(piece=HALF))

    def test_rates(self):
        keeper = Keeper(the_history())
        keeper.rates = Prices(piece=HALF)
        self.assertEqual(keeper.rates, Prices(piece=HALF))
        self.assert_same(origins(keeper.study, 2, 0), ((0, 0),))
        keeper.rates = Prices(piece=HALF)
        keeper.rates = Prices(piece=2)
        self.assert_same(origins(keeper.study, 2, 0), ((2, 0),))
        keeper.undo()
        self.assertEqual(keeper.rates, Prices(piece=HALF))
        self.assert_undoable(keeper, 2)
        self.assertEqual(keeper.rates, Prices())

    def test_changes_that_leave_everything_equal(self):
        keeper = Keeper(the_history())
        self.assert_same(keeper.amend(1, ("b", "a")), ())
        self.assert_same(keeper.reprice(Prices()), ())
        keeper.rates = Prices()
        self.assert_same(keeper.attempt([(0, ["a", "b"]), ("reprice", Prices())]), ())
        self.assert_equal_objects(keeper.study, Study(the_history()))
        self.assert_undoable(keeper, 5)

    def test_undo_in_between(self):
        keeper = Keeper(the_history())
        keeper.amend(0, ["x"])
        keeper.follow(Version(["y"], parents=[0]))
        keeper.undo()
        keeper.rates = Prices(piece=3)
        keeper.amend(1, [])
        keeper.undo()
        keeper.undo()
        self.assertEqual([keeper.history, keeper.rates], [the_history().amended(0, ["x"]), Prices()])
        keeper.follow(Version(["z"]))
        self.assert_undoable(keeper, 2)
        self.assert_equal_objects(keeper.study, Study(the_history()))
        keeper.amend(0, [])
        self.assert_undoable(keeper, 1)

    def test_two_keepers_of_one_history(self):
        history, prices = the_history(), Prices(piece=HALF)
        one, other = Keeper(history, prices=prices), Keeper(history, prices=prices)
        study = other.study
        one.amend(0, [])
        one.follow(Version(["a"]))
        one.rates = Prices(piece=2)
        self.assertEqual([history, prices, other.history, other.rates], [the_history(), Prices(piece=HALF)] * 2)
        self.assertIs(other.study, study)
        self.assert_same(origins(other.study, 2, 0), ((0, 0),))
        self.assert_nothing_to_undo(other)
        third = Keeper(one.history, prices=one.rates)
        self.assert_nothing_to_undo(third)

    def test_studies_stay_as_they_are(self):
        """A study that was taken ahead of a change answers as before it."""
        keeper = Keeper(the_history(), prices=Prices(piece=HALF))
        study, history = keeper.study, keeper.history
        for change in [lambda: keeper.amend(0, ["c"]), lambda: keeper.follow(Version([])), lambda: keeper.reprice(Prices()),
                       keeper.undo, keeper.undo, lambda: keeper.attempt([(1, ["d"]), ("undo", 0), (2, [])])]:
            change()
            self.assert_equal_objects(study, Study(the_history(), prices=Prices(piece=HALF)))
            self.assertEqual(history, the_history())
            self.assert_same(origins(study, 2, 0), ((0, 0),))

    def test_later_changes_of_arguments(self):
        lines = ["a", "c"]
        keeper = Keeper(the_history())
        keeper.amend(0, lines)
        lines.append("d")
        changes = [(0, lines), ("undo", None), (1, lines)]
        keeper.attempt(changes)
        lines.clear()
        changes.clear()
        self.assertEqual([keeper.history.version(0).lines, keeper.history.version(1).lines], [("a", "c"), ("a", "c", "d")])

    def test_later(self):
        keeper = Keeper(merged_history())
        wanted = [(1, 2, 3, 5), (3, 5), (3, 5), (5,), (), ()]
        self.assert_same([keeper.later(number) for number in range(6)], wanted)
        self.assertEqual(keeper.later(number=3), (5,))
        keeper.follow(Version([], parents=[4]))
        self.assert_same([keeper.later(number) for number in range(7)], [*wanted[:4], (6,), (), ()])
        keeper.undo()
        self.assert_same(keeper.later(4), ())
        keeper = Keeper(long_history())
        self.assert_same([keeper.later(number) for number in range(10)],
                         [tuple([other for other in range(10) if number in long_history().ancestors(other)])
                          for number in range(10)])

    def test_only_later_versions_depend_on_a_version(self):
        source = random.Random(8)
        for _ in range(60):
            history, prices = some_history(source), source.choice(PRICES)
            keeper = Keeper(history, prices=prices)
            number = source.randrange(len(history))
            places = keeper.amend(number, some_lines(source))
            self.assertLessEqual({place[0] for place in places}, {number, *keeper.later(number)})


class TestListed(KeeperCase):
    """Places beside the origins that the test finds itself, before and after each change."""

    def test_places(self):
        source = random.Random(4)
        kinds = {"came": 0, "went": 0, "others": 0, "none": 0}
        for _ in range(150):
            history, prices = some_history(source), source.choice(PRICES)
            keeper = Keeper(history, prices=prices)
            before = all_origins(history, prices)
            if source.random() < 0.6:
                number, lines = source.randrange(len(history)), some_lines(source)
                found = keeper.amend(number, lines)
                after = all_origins(history.amended(number, lines), prices)
            else:
                other = source.choice(PRICES)
                found = keeper.reprice(other)
                after = all_origins(history, other)
            self.assert_same(found, differing(before, after))
            kinds["came"] += any([place not in before for place in found])
            kinds["went"] += any([place not in after for place in found])
            kinds["others"] += any([place in before and place in after for place in found])
            kinds["none"] += found == ()
        self.assertGreater(min(kinds.values()), 10, kinds)

    def test_long_sessions(self):
        """Changes of all kinds, blocks and attempts, right and wrong, beside a model of the keeper."""
        source = random.Random(6)
        seen = {"refused": 0, "done": 0, "attempts": 0, "broken": 0}
        for _ in range(25):
            model = Model(some_history(source), source.choice(PRICES))
            keeper = Keeper(model.history, prices=model.prices)
            for _ in range(30):
                self.go_on(keeper, model, source, seen)
                self.assert_like(keeper, model)
            self.assert_undoable(keeper, len(model.past))
        self.assertGreater(min(seen.values()), 20, seen)

    def go_on(self, keeper, model, source, seen):
        kind = source.choice(["follow", "amend", "amend", "reprice", "rates", "undo", "attempt", "attempt", "trial"])
        if kind == "undo" and model.past:
            keeper.undo()
            model.undo()
        elif kind == "undo":
            self.assert_nothing_to_undo(keeper)
        elif kind == "rates":
            keeper.rates = source.choice(PRICES)
            model.become(model.history, keeper.rates)
        elif kind == "attempt":
            self.attempt(keeper, model, [self.some_change(model, source) for _ in range(source.randint(0, 5))], seen)
        elif kind == "trial":
            self.block(keeper, model, source, seen)
        elif kind == "follow" and len(model.history) < 6:
            version = some_version(source, len(model.history))
            self.assert_same(keeper.follow(version), len(model.history))
            model.perform("follow", version)
        elif kind == "reprice" or len(model.history) == 0:
            self.change(keeper.reprice, model, "reprice", source.choice(PRICES))
        else:
            number, lines = source.randrange(len(model.history)), some_lines(source)
            self.change(lambda value: keeper.amend(number, value), model, number, lines)

    def change(self, call, model, kind, value):
        before = model.origins()
        found = call(value)
        model.perform(kind, value)
        self.assert_same(found, differing(before, model.origins()))

    def some_change(self, model, source):
        size = len(model.history)
        return source.choice([
            lambda: (source.randrange(size), some_lines(source)), lambda: (source.randrange(size), some_lines(source)),
            lambda: ("follow", some_version(source, min(size, 6))), lambda: ("reprice", source.choice(PRICES)),
            lambda: ("undo", None), lambda: source.choice([(size + 9, []), ("amend", []), (0, None), ("undo", 0)])])()

    def attempt(self, keeper, model, changes, seen):
        before, state = model.origins(), model.state()
        wrong = False
        for kind, value in changes:
            wrong = (kind == "undo" and not model.past or kind == "amend" or value is None and kind != "undo"
                     or kind == "follow" and len(model.history) > 9 or isinstance(kind, int) and kind >= len(model.history))
            if wrong:
                break
            model.perform(kind, value)
        if wrong:
            model.history, model.prices, model.past = state
            with self.assertRaises((LineError, NothingToUndo, TooMany)):
                keeper.attempt(changes)
            seen["refused"] += 1
        else:
            self.assert_same(keeper.attempt(changes), differing(before, model.origins()))
            seen["done"] += 1
        seen["attempts"] += 1

    def block(self, keeper, model, source, seen):
        """A block with changes, and perhaps another block; it ends well or with an error."""
        state = model.state()
        broken = source.random() < 0.5
        try:
            with keeper.trial():
                for _ in range(source.randint(0, 3)):
                    self.go_on(keeper, model, source, seen)
                if broken:
                    raise Stop
        except Stop:
            model.history, model.prices, model.past = state
            seen["broken"] += 1


class TestBlocks(KeeperCase):

    def test_a_block_that_ends_well(self):
        keeper = Keeper(the_history())
        with keeper.trial():
            keeper.amend(0, ["x"])
            keeper.rates = Prices(piece=2)
        self.assertEqual([keeper.history, keeper.rates], [the_history().amended(0, ["x"]), Prices(piece=2)])
        self.assert_undoable(keeper, 2)

    def test_a_block_that_ends_with_an_error(self):
        for error in [ValueError("no"), InvalidText("no"), Stop(), KeyboardInterrupt(), GeneratorExit(), StopIteration()]:
            keeper = Keeper(the_history())
            keeper.amend(0, ["x"])
            before = keeper.study
            with self.assertRaises(type(error)) as caught:
                with keeper.trial():
                    keeper.amend(1, ["y"])
                    keeper.follow(Version([]))
                    keeper.rates = Prices(piece=2)
                    raise error
            self.assertIs(caught.exception, error)
            self.assert_equal_objects(keeper.study, before)
            self.assert_undoable(keeper, 1)
            self.assertEqual(keeper.history, the_history())

    def test_errors_of_the_keeper_go_on(self):
        keeper = Keeper(the_history())
        lines = ["a"] * 13
        with self.assertRaises(InvalidText) as caught:
            with keeper.trial():
                keeper.follow(Version(["a"]))
                keeper.amend(0, lines)
        self.assertIs(caught.exception.value, lines)
        self.assertEqual(keeper.history, the_history())
        self.assert_nothing_to_undo(keeper)

    def test_an_error_that_is_caught_in_the_block(self):
        keeper = Keeper(the_history())
        with keeper.trial():
            keeper.amend(0, ["x"])
            self.assert_refused(InvalidText, None, keeper.amend, 0, None)
        self.assertEqual(keeper.history, the_history().amended(0, ["x"]))
        self.assert_undoable(keeper, 1)

    def test_undone_in_the_block(self):
        """What was undone in a block that ends with an error can be undone again."""
        keeper = Keeper(the_history())
        keeper.amend(0, ["x"])
        keeper.amend(0, ["y"])
        with self.assertRaises(Stop):
            with keeper.trial():
                keeper.undo()
                keeper.undo()
                self.assert_nothing_to_undo(keeper)
                keeper.amend(0, ["z"])
                raise Stop
        self.assertEqual(keeper.history.version(0).lines, ("y",))
        keeper.undo()
        self.assertEqual(keeper.history.version(0).lines, ("x",))
        self.assert_undoable(keeper, 1)
        with keeper.trial():
            keeper.amend(0, ["v"])
            keeper.undo()
        self.assert_nothing_to_undo(keeper)

    def test_blocks_inside_each_other(self):
        for outer, inner in [(False, False), (False, True), (True, False), (True, True)]:
            keeper = Keeper(the_history())
            keeper.amend(0, ["s"])
            try:
                with keeper.trial():
                    keeper.amend(0, ["t"])
                    try:
                        with keeper.trial():
                            keeper.amend(1, ["u"])
                            keeper.undo()
                            keeper.undo()
                            if inner:
                                raise Stop
                    except Stop:
                        self.assertEqual(keeper.history.version(0).lines, ("t",))
                    keeper.amend(2, ["v"])
                    if outer:
                        raise Stop
            except Stop:
                pass
            wanted = [("s",), ("a",)] if outer else [("t" if inner else "s",), ("v",)]
            self.assertEqual([keeper.history.version(number).lines for number in (0, 2)], wanted)
            self.assert_undoable(keeper, 1 if outer else 3 if inner else 2)

    def test_an_error_that_leaves_both_blocks(self):
        keeper = Keeper(the_history())
        with self.assertRaises(Stop):
            with keeper.trial():
                keeper.amend(0, ["t"])
                with keeper.trial():
                    keeper.amend(0, ["u"])
                    raise Stop
        self.assertEqual(keeper.history, the_history())
        self.assert_nothing_to_undo(keeper)

    def test_when_a_block_begins(self):
        keeper = Keeper(the_history())
        trial = keeper.trial()
        keeper.amend(0, ["x"])
        with self.assertRaises(Stop):
            with trial:
                keeper.amend(0, ["y"])
                raise Stop
        self.assertEqual(keeper.history.version(0).lines, ("x",))
        self.assert_undoable(keeper, 1)
        self.assertIsNot(keeper.trial(), keeper.trial())

    def test_a_block_that_is_left_without_an_error(self):
        keeper = Keeper(the_history())
        for number in range(3):
            with keeper.trial():
                keeper.amend(number, ["x"])
                if number == 1:
                    break

        def leave():
            with keeper.trial():
                keeper.amend(2, ["y"])
                return 1

        self.assertEqual(leave(), 1)
        self.assertEqual([version.lines for version in keeper.history], [("x",), ("x",), ("y",)])
        self.assert_undoable(keeper, 3)


class TestAttempts(KeeperCase):

    def test_each_kind_of_change(self):
        keeper = Keeper(the_history(), prices=Prices(piece=HALF))
        version = Version(["c", "b"], parents=[2])
        changes = [(0, ["a", "c"]), ("follow", version), ("reprice", Prices(piece=Ratio(1, 3))), ("undo", RUDE)]
        for value in [changes, tuple(changes)]:
            self.assert_same(keeper.attempt(value), ((1, 0), (3, 0), (3, 1)))
            self.assertEqual([keeper.history, keeper.rates], [the_history().amended(0, ["a", "c"]).followed(version),
                                                             Prices(piece=HALF)])
            self.assert_undoable(keeper, 2)
        self.assert_same(keeper.attempt(changes=[]), ())
        self.assert_same(keeper.attempt(()), ())
        self.assert_nothing_to_undo(keeper)

    def test_each_change_is_undone_on_its_own(self):
        keeper = Keeper(the_history())
        keeper.attempt([(0, ["x"]), ("reprice", Prices(piece=2)), ("follow", Version(["y"])), (3, ["z"])])
        self.assertEqual(keeper.history.version(3).lines, ("z",))
        keeper.undo()
        self.assertEqual(keeper.history.version(3).lines, ("y",))
        keeper.undo()
        self.assertEqual([len(keeper.history), keeper.rates], [3, Prices(piece=2)])
        keeper.undo()
        self.assertEqual([keeper.rates, keeper.history.version(0).lines], [Prices(), ("x",)])
        self.assert_undoable(keeper, 1)

    def test_the_places_are_those_of_all_changes_together(self):
        keeper = Keeper(the_history(), prices=Prices(piece=HALF))
        self.assert_same(keeper.attempt([(0, []), (0, ["a", "b"])]), ())
        self.assert_undoable(keeper, 2)
        self.assert_same(keeper.attempt([("follow", Version(["a"], parents=[2])), (0, ["c", "b"])]),
                         ((1, 1), (2, 0), (3, 0)))

    def test_undo_of_what_was_before(self):
        keeper = Keeper(the_history(), prices=Prices(piece=HALF))
        keeper.amend(0, ["a", "c"])
        keeper.rates = Prices(piece=2)
        self.assert_same(keeper.attempt([("undo", None), ("undo", ["a"]), ("follow", Version(["d"]))]),
                         ((1, 0), (1, 1), (2, 0), (3, 0)))
        self.assertEqual([keeper.history, keeper.rates], [the_history().followed(Version(["d"])), Prices(piece=HALF)])
        self.assert_undoable(keeper, 1)

    def test_too_many_undone(self):
        keeper = Keeper(the_history())
        keeper.amend(0, ["x"])
        before = keeper.study
        with self.assertRaises(NothingToUndo):
            keeper.attempt([("undo", 0), ("follow", Version([])), ("undo", 0), ("undo", 0), (0, None)])
        self.assert_equal_objects(keeper.study, before)
        self.assert_undoable(keeper, 1)

    def test_a_wrong_one_at_each_place(self):
        right = [(0, ["x"]), ("follow", Version(["y"], parents=[0])), ("reprice", Prices(piece=2)), ("undo", 0), (3, ["z"])]
        lines, version, prices = ["a"] * 13, object(), object()
        wrong = [((0, lines), InvalidText, lines), (("follow", version), InvalidVersion, version),
                 (("reprice", prices), InvalidPrices, prices), (("reprice", None), InvalidPrices, None),
                 ((9, []), InvalidNumber, 9), (("amend", []), InvalidNumber, "amend"), ((None, []), InvalidNumber, None)]
        for change, error, value in wrong:
            for at in range(len(right) + 1):
                keeper = Keeper(the_history())
                keeper.amend(2, ["s"])
                changes = [*right[:at], change, *right[at:], (digits(20), None)]
                self.assert_change_refused(keeper, error, value, keeper.attempt, changes)
                self.assertEqual(keeper.history, the_history().amended(2, ["s"]))
                self.assert_undoable(keeper, 1)

    def test_an_eleventh_version(self):
        keeper = Keeper(the_history())
        version = Version(["a"], parents=[0])
        before = keeper.study
        self.assert_refused(TooMany, 10, keeper.attempt, [("follow", version)] * 8, field="limit")
        self.assert_equal_objects(keeper.study, before)
        self.assert_nothing_to_undo(keeper)
        self.assertEqual(len(keeper.attempt([("follow", version)] * 7)), 7)
        self.assertEqual(len(keeper.history), 10)
        self.assert_refused(TooMany, 10, keeper.attempt, [("follow", version)], field="limit")
        self.assert_same(keeper.attempt([("undo", 0), ("follow", version)]), ())
        self.assert_refused(TooMany, 10, keeper.attempt, [("undo", 0), ("follow", version), ("follow", version)], field="limit")
        self.assertEqual(len(keeper.history), 10)
        self.assert_undoable(keeper, 7)

    def test_numbers_after_the_changes_before(self):
        """Whether a number is that of a version is asked when its turn comes."""
        keeper = Keeper(the_history())
        self.assertEqual(len(keeper.attempt([("follow", Version([])), (3, ["a"]), ("follow", Version(["a"], parents=[3]))])), 2)
        self.assert_refused(InvalidNumber, 4, keeper.attempt, [("undo", 0), (4, [])])
        self.assertEqual(len(keeper.history), 5)

    def test_in_a_block(self):
        keeper = Keeper(the_history())
        with self.assertRaises(Stop):
            with keeper.trial():
                keeper.attempt([(0, ["x"]), (1, ["y"])])
                self.assert_refused(InvalidText, None, keeper.attempt, [(0, []), (0, None)])
                self.assertEqual(keeper.history.version(0).lines, ("x",))
                raise Stop
        self.assertEqual(keeper.history, the_history())
        self.assert_nothing_to_undo(keeper)

    def test_many_changes(self):
        keeper = Keeper(the_history())
        self.assert_same(keeper.attempt([(0, ["a", "b"]), (0, ["b"])] * 300 + [("undo", 0)]), ())
        self.assert_undoable(keeper, 599)


class TestLong(KeeperCase):

    def test_long(self):
        for study in long_studies():
            keeper = Keeper(study.history, prices=study.prices)
            for change in [lambda: keeper.amend(4, ["a", "b"]), lambda: keeper.reprice(Prices(piece=3)),
                           lambda: keeper.attempt([(9, []), ("undo", 0), (0, ["b", "a"]), ("reprice", study.prices)])]:
                before = keeper.study
                found = change()
                places = [(number, index) for number in range(10) for index in range(12)]
                known = [place for place in places if place[1] < len(before.history.version(place[0]))
                         and place[1] < len(keeper.history.version(place[0]))]
                self.assertEqual([place for place in known if place in found],
                                 [place for place in known if origins(before, *place) != origins(keeper.study, *place)])
                self.assertEqual(found, tuple(sorted(found)))


class TestWrongValues(KeeperCase):

    def test_no_history(self):
        for value in [None, True, 0, "", (), [], [Version(["a"])], History, Study(History()), RUDE, AGREEABLE]:
            self.assert_refused(InvalidHistory, value, Keeper, value)
            self.assert_refused(InvalidHistory, value, Keeper, value, prices="no")
            self.assert_refused(InvalidHistory, value, Keeper, history=value)

    def test_no_prices(self):
        keeper = Keeper(the_history())
        for value in NO_PRICES:
            if value is not None:
                self.assert_refused(InvalidPrices, value, Keeper, the_history(), prices=value)
            self.assert_change_refused(keeper, InvalidPrices, value, keeper.reprice, value)
            self.assert_change_refused(keeper, InvalidPrices, value, setattr, keeper, "rates", value)
            self.assert_change_refused(keeper, InvalidPrices, value, keeper.attempt, [("reprice", value)])
        self.assert_nothing_to_undo(keeper)
        with self.assertRaises(TypeError):
            Keeper(the_history(), Prices())

    def test_no_version_to_follow(self):
        keeper = Keeper(the_history())
        for value in [*NO_VERSIONS, Version(["a"], parents=[9]), Version([], parents=[0, 4])]:
            self.assert_change_refused(keeper, InvalidVersion, value, keeper.follow, value)
            self.assert_change_refused(keeper, InvalidVersion, value, keeper.attempt, [("follow", value)])
        keeper = Keeper(long_history())
        for value in [None, Version([], parents=[10])]:
            self.assert_refused(InvalidVersion, value, keeper.follow, value)
        self.assert_refused(TooMany, 10, keeper.follow, Version(["a"], parents=[9]), field="limit")
        self.assertEqual(keeper.history, long_history())
        self.assert_nothing_to_undo(keeper)

    def test_no_number(self):
        for history in [the_history(), History()]:
            keeper = Keeper(history)
            # One version more is there when a change is refused.
            for value in no_indices(len(history) + 1):
                for lines in [["a"], None]:
                    self.assert_change_refused(keeper, InvalidNumber, value, keeper.amend, value, lines)
                    self.assert_change_refused(keeper, InvalidNumber, value, keeper.attempt, [(value, lines)])
            for value in no_indices(len(history)):
                self.assert_refused(InvalidNumber, value, keeper.later, value)
                self.assert_refused(InvalidNumber, value, keeper.amend, value, None)

    def test_no_text(self):
        keeper = Keeper(the_history())
        for value in NO_TEXTS:
            self.assert_change_refused(keeper, InvalidText, value, keeper.amend, 1, value)
            self.assert_change_refused(keeper, InvalidText, value, keeper.attempt, [(1, value)])

    def test_no_changes(self):
        keeper = Keeper(the_history())
        right = (0, ["x"])
        for value in [*NO_LISTINGS, right, [right, None], [None, right], [right, list(right)], [right, (0,)], [right, ()],
                      [right, (0, ["x"], 0)], [(9, None), [0, []]], [right, RUDE], [right, AGREEABLE], ["ab"], [b"ab"],
                      [("undo",)], ["undo"], (("undo", 0), ("follow", Version([]), 0))]:
            self.assert_change_refused(keeper, InvalidHistory, value, keeper.attempt, value)

    def test_words_that_are_none(self):
        keeper = Keeper(the_history())
        keeper.follow(Version(["a"]))
        for word in ["", "amend", "Follow", "undo ", "trial", "rates", "0", "new", b"undo", ("undo",), RUDE, AGREEABLE, 1.0]:
            for value in [["a"], Version(["a"]), Prices(), None, RUDE]:
                self.assert_change_refused(keeper, InvalidNumber, word, keeper.attempt, [(word, value)])
                self.assert_change_refused(keeper, InvalidNumber, word, keeper.attempt, ((0, []), (word, value), (0, None)))

    def test_the_order_of_the_errors(self):
        keeper = Keeper(the_history())
        number, lines = digits(30), object()
        self.assert_refused(InvalidNumber, number, keeper.amend, number, lines)
        self.assert_refused(InvalidNumber, number, keeper.attempt, [(number, lines), (0, lines)])
        self.assert_refused(InvalidText, lines, keeper.attempt, [(0, lines), (number, lines)])
