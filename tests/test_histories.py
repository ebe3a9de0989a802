"""Versions and histories (point 6 and histories.py)."""

from lineorigins import histories
from lineorigins.errors import (InvalidHistory, InvalidName, InvalidNumber, InvalidParents, InvalidText,
                                InvalidVersion, TooMany)
from lineorigins.histories import History, Version
from tests.examples import run_example
from tests.support import AGREEABLE, NO_LISTINGS, NO_STRINGS, NO_WHOLE_NUMBERS, Case, digits

EXAMPLE = """
>>> from lineorigins.histories import History, Version
>>> history = History([Version(['a', 'b']), Version(['b', 'a'], parents=[0], author='ann'), Version(['a'], parents=[1])])
>>> [len(history), history.ancestors(2), history.farther(2), history.version(1)[0], 'c' in history.version(0), 3 in history, history.version(1).author]
[3, (0, 1), (0,), 'b', False, False, 'ann']
"""
NO_NAMES = [*NO_STRINGS, "", "abcdefghi", "A", "aB", "a1", "a b", "a-", "_", " a", "a\n", "\u00e9", "{", "`"]
NO_TEXTS = [*NO_LISTINGS, ["a"] * 13, ["a" * 41], ("a\n",), [1], [None], [["a"]]]
NO_PARENTS = [*NO_LISTINGS, [0, 1, 2, 3], (0, 1, 2, 3), [0, 0], (1, 0, 1), [-1], [0, -1], [True], [False], (0, True),
              [1, True], [1.0], ["0"], [None], [[0]], [(0,)], [AGREEABLE], [0, [1]]]


def some_history():
    return History([
        Version(["a", "b"]), Version(["b", "a"], parents=[0], author="ann"), Version(["c"]),
        Version(["d"], parents=[2, 1]), Version([], parents=[3, 0])])


class TestVersion(Case):

    def test_example(self):
        self.assertEqual(*run_example(EXAMPLE))

    def test_properties(self):
        version = Version(["b", "a"], parents=[4, 0, 2], author="ann")
        self.assert_same([version.lines, version.parents, version.author], [("b", "a"), (0, 2, 4), "ann"])
        plain = Version(())
        self.assert_same([plain.lines, plain.parents, plain.author], [(), (), "anon"])
        self.assert_fixed(version, "lines", "parents", "author")
        self.assert_own_methods(Version, "__init__", "__len__", "__getitem__", "__contains__", "__eq__",
                                "lines", "parents", "author")

    def test_by_name_and_by_position(self):
        self.assertEqual(Version(lines=["a"]), Version(["a"]))
        with self.assertRaises(TypeError):
            Version(["a"], [0])

    def test_later_changes_have_no_effect(self):
        lines, parents = ["a", "b"], [1, 0]
        version = Version(lines, parents=parents)
        self.assertEqual([lines, parents], [["a", "b"], [1, 0]])
        lines.append("c")
        parents.clear()
        self.assertEqual([version.lines, version.parents], [("a", "b"), (0, 1)])

    def test_lines(self):
        for lines in [[], ["a"] * 12, ["a" * 40], ("", " ", "~"), ["|a"]]:
            self.assert_same(Version(lines).lines, tuple(lines))
        for value in NO_TEXTS:
            self.assert_refused(InvalidText, value, Version, value)
            self.assert_refused(InvalidText, value, Version, lines=value)

    def test_parents(self):
        for parents in [[], (), [0], [5, 3], (2, 1, 0), [0, 1, 2], [9, 99, 10], [digits(200)]]:
            self.assert_same(Version([], parents=parents).parents, tuple(sorted(parents)))
        for value in NO_PARENTS:
            self.assert_refused(InvalidParents, value, Version, ["a"], parents=value)

    def test_author(self):
        for name in ["a", "z", "abcdefgh", "zzzzzzzz", "anon"]:
            self.assert_same(Version([], author=name).author, name)
        for value in NO_NAMES:
            self.assert_refused(InvalidName, value, Version, [], author=value)

    def test_order_of_errors(self):
        for lines in [None, ["a"] * 13]:
            for parents in [(), None, [True]]:
                for author in ["a", None, "A"]:
                    self.assert_refused(InvalidText, lines, Version, lines, author=author, parents=parents)
        for parents in [None, [0, 0], [-1]]:
            for author in [None, "A"]:
                self.assert_refused(InvalidParents, parents, Version, [], author=author, parents=parents)

    def test_length_and_lines(self):
        version = Version(["x", "", "y"])
        self.assert_same([len(version), len(Version([])), len(Version(["a"] * 12))], [3, 0, 12])
        self.assertEqual([version[0], version[1], version[2]], ["x", "", "y"])
        for value in [*NO_WHOLE_NUMBERS, -1, 3, -3, digits(200), slice(0, 1)]:
            self.assert_refused(InvalidNumber, value, lambda: version[value])
        self.assert_refused(InvalidNumber, 0, lambda: Version([])[0])

    def test_membership(self):
        version = Version(["ab", ""])
        self.assertIs("ab" in version, True)
        self.assertIs("" in version, True)
        self.assertIs("a" in version, False)
        self.assertIs("AB" in version, False)
        self.assertIs("" in Version(["a"]), False)
        self.assertIs("a" * 41 in version, False)
        self.assertIs("a" in Version([]), False)

    def test_no_iteration(self):
        for version in [Version([]), Version(["a", "b"])]:
            for ask in [iter, list, tuple, sorted, lambda value: [*value]]:
                with self.assertRaises(TypeError):
                    ask(version)

    def test_equality(self):
        version = Version(["a"], parents=[0, 1], author="ann")
        self.assert_equal_objects(version, Version(("a",), parents=(1, 0), author="ann"))
        self.assert_unequal(version, Version(["b"], parents=[0, 1], author="ann"))
        self.assert_unequal(version, Version(["a"], parents=[0, 2], author="ann"))
        self.assert_unequal(version, Version(["a"], parents=[0, 1], author="bob"))
        for value in [None, ("a",), ["a"], "a", AGREEABLE, object(), History([Version(["a"])])]:
            self.assert_unequal(version, value)
            self.assert_unequal(Version(["a"]), value)


class TestHistory(Case):

    def test_versions_in_order(self):
        versions = [Version(["a"]), Version(["b"], parents=[0])]
        history = History(versions)
        self.assertEqual(list(history), versions)
        self.assertIs(list(history)[0], versions[0])
        self.assertEqual(list(history), list(history))
        self.assert_same([len(history), len(History()), len(History([Version([])] * 10))], [2, 0, 10])
        self.assertEqual(list(History()), [])
        self.assertEqual(History(versions=tuple(versions)), history)

    def test_own_methods(self):
        self.assert_own_methods(History, "__init__", "__iter__", "__len__", "__contains__", "__eq__", "version",
                                "ancestors", "farther", "followed", "amended")
        for thing in [History, Version]:
            self.assertEqual(thing.__module__, histories.__name__)

    def test_later_changes_have_no_effect(self):
        versions = [Version(["a"])]
        history = History(versions)
        versions.append(Version(["b"]))
        versions[0] = Version(["c"])
        self.assertEqual([len(history), history.version(0)[0]], [1, "a"])

    def test_no_history(self):
        for value in [*NO_LISTINGS, [Version([])] * 11, (Version([]),) * 11, [None] * 11, Version([]), History()]:
            self.assert_refused(InvalidHistory, value, History, value)
            self.assert_refused(InvalidHistory, value, History, versions=value)

    def test_no_version(self):
        plain = Version(["a"])
        for value in [None, "a", ("a",), [], 0, True, AGREEABLE, object(), Version, History(), [plain]]:
            self.assert_refused(InvalidVersion, value, History, [value])
            self.assert_refused(InvalidVersion, value, History, (plain, value, None))
            self.assert_refused(InvalidVersion, value, History, [plain] * 9 + [value])

    def test_parents_are_smaller(self):
        for number in range(10):
            before = [Version([])] * number
            for parents in [[number], [number + 1], [digits(200)], [99, number], [number, number + 1]]:
                wrong = Version([], parents=parents)
                self.assert_refused(InvalidVersion, wrong, History, before + [wrong])
            if number >= 3:
                right = Version([], parents=[number - 1, number - 2, 0])
                self.assertIs(History(before + [right]).version(number), right)

    def test_first_wrong_version(self):
        early, late = Version([], parents=[1]), Version([], parents=[2])
        self.assert_refused(InvalidVersion, early, History, [Version([]), early, late, None])
        self.assert_refused(InvalidVersion, late, History, [Version([]), Version([]), late, None])
        self.assert_refused(InvalidVersion, None, History, [Version([]), None, late])

    def test_numbers(self):
        history = some_history()
        for number in range(5):
            self.assertIs(number in history, True)
        for number in [-1, 5, 10, digits(200), -digits(200)]:
            self.assertIs(number in history, False)
        self.assertIs(0 in History(), False)

    def test_version(self):
        history = some_history()
        self.assertEqual([history.version(number) for number in range(5)], list(history))
        self.assertIs(history.version(number=2), list(history)[2])

    def test_ancestors(self):
        history = some_history()
        wanted = [((), ()), ((0,), ()), ((), ()), ((0, 1, 2), (0,)), ((0, 1, 2, 3), (1, 2))]
        for number, (ancestors, farther) in enumerate(wanted):
            self.assert_same(history.ancestors(number), ancestors)
            self.assert_same(history.farther(number=number), farther)
            self.assert_same(history.ancestors(number=number), ancestors)

    def test_ancestors_of_a_long_chain(self):
        history = History([Version([])] + [Version([], parents=[number]) for number in range(9)])
        self.assert_same(history.ancestors(9), (0, 1, 2, 3, 4, 5, 6, 7, 8))
        self.assert_same(history.farther(9), (0, 1, 2, 3, 4, 5, 6, 7))

    def test_ancestors_that_meet_again(self):
        history = History([Version([]), Version([], parents=[0]), Version([], parents=[0]), Version([]),
                           Version([], parents=[2, 1]), Version([], parents=[0, 4])])
        self.assert_same([history.ancestors(4), history.farther(4)], [(0, 1, 2), (0,)])
        self.assert_same([history.ancestors(5), history.farther(5)], [(0, 1, 2, 4), (1, 2)])

    def test_no_such_number(self):
        history = some_history()
        for value in [*NO_WHOLE_NUMBERS, -1, 5, 10, digits(200)]:
            for ask in [history.version, history.ancestors, history.farther]:
                self.assert_refused(InvalidNumber, value, ask, value)
                self.assert_refused(InvalidNumber, value, ask, number=value)
        for ask in [History().version, History().ancestors, History().farther]:
            self.assert_refused(InvalidNumber, 0, ask, 0)

    def test_followed(self):
        history = some_history()
        version = Version(["x"], parents=[4, 0], author="bob")
        longer = history.followed(version)
        self.assertEqual(list(longer), [*history, version])
        self.assert_same([len(history), len(longer), longer.ancestors(5)], [5, 6, (0, 1, 2, 3, 4)])
        self.assertEqual(list(History().followed(version=Version([]))), [Version([])])

    def test_followed_by_no_such_version(self):
        history = some_history()
        for value in [None, "a", [], (), 0, AGREEABLE, history, Version, Version([], parents=[5]),
                      Version([], parents=[0, 6]), Version([], parents=[digits(200)])]:
            self.assert_refused(InvalidVersion, value, history.followed, value)
            self.assert_refused(InvalidVersion, value, history.followed, version=value)
        self.assert_refused(InvalidVersion, None, History([Version([])] * 10).followed, None)

    def test_ten_versions_and_eleven(self):
        nine, ten = History([Version([])] * 9), History([Version([])] * 10)
        self.assertEqual(nine.followed(Version([])), ten)
        for version in [Version([]), Version(["a"], parents=[9])]:
            with self.assertRaises(TooMany) as caught:
                ten.followed(version)
            self.assert_same(caught.exception.limit, 10)
        wrong = Version([], parents=[10])
        self.assert_refused(InvalidVersion, wrong, ten.followed, wrong)
        self.assertEqual(len(ten), 10)

    def test_amended(self):
        history = some_history()
        lines = ["x", "y"]
        other = history.amended(1, lines)
        lines.append("z")
        self.assertEqual(other.version(1), Version(["x", "y"], parents=[0], author="ann"))
        self.assertEqual([list(other)[at] for at in [0, 2, 3, 4]], [list(history)[at] for at in [0, 2, 3, 4]])
        self.assertEqual(history, some_history())
        self.assertEqual(history.amended(lines=(), number=0).version(0), Version([]))
        self.assertEqual(history.amended(0, ["a", "b"]), history)
        self.assertEqual(other.ancestors(4), (0, 1, 2, 3))

    def test_no_such_amendment(self):
        history = some_history()
        for number in [*NO_WHOLE_NUMBERS, -1, 5, 10]:
            self.assert_refused(InvalidNumber, number, history.amended, number, [])
            self.assert_refused(InvalidNumber, number, history.amended, number, None)
        for lines in NO_TEXTS:
            self.assert_refused(InvalidText, lines, history.amended, 0, lines)
            self.assert_refused(InvalidText, lines, history.amended, number=4, lines=lines)
        self.assertEqual(history, some_history())

    def test_equality(self):
        self.assert_equal_objects(History(), History([]))
        self.assert_equal_objects(some_history(), some_history())
        self.assert_unequal(some_history(), some_history().amended(4, ["x"]))
        self.assert_unequal(some_history(), some_history().followed(Version([])))
        self.assert_unequal(History([Version([])]), History([Version([], author="bob")]))
        for value in [None, (), [], list(some_history()), AGREEABLE, object()]:
            self.assert_unequal(some_history(), value)
            self.assert_unequal(History(), value)
