"""Lines, texts and layouts (point 5 and layouts.py)."""

from lineorigins import layouts
from lineorigins.errors import InvalidLayout, InvalidText
from lineorigins.layouts import Layout, is_line, is_text
from tests.examples import run_example
from tests.support import AGREEABLE, NO_LISTINGS, NO_STRINGS, Case

EXAMPLE = """
>>> from lineorigins.layouts import Layout, is_line
>>> layout = Layout(ignored=' ', folded=True)
>>> [layout('  End If'), layout('a') == layout('A '), is_line('a' * 41), layout.ignored]
['endif', True, False, ' ']
"""
ALL_MARKS = "".join([chr(code) for code in range(ord(" "), ord("~") + 1)])
NO_MARKS = ["\n", "\t", "\r", "\x00", "\x1f", "\x7f", "\x80", "\u00e9", "\u2028", "\U0001f600", "\ud800"]
NO_LINES = [*NO_STRINGS, "a" * 41, "a\n", "\n", *NO_MARKS]


class TestLines(Case):

    def test_example(self):
        self.assertEqual(*run_example(EXAMPLE))

    def test_lines(self):
        for value in ["", "a", " ", "~", "|", "a" * 40, ALL_MARKS[:40], ALL_MARKS[40:80], ALL_MARKS[55:], "- ,"]:
            self.assertIs(is_line(value), True)
            self.assertIs(is_line(value=value), True)

    def test_no_lines(self):
        for value in NO_LINES:
            self.assertIs(is_line(value), False)
        for mark in NO_MARKS:
            self.assertIs(is_line("ab" + mark), False)
            self.assertIs(is_line(mark + "ab"), False)

    def test_texts(self):
        for value in [[], (), ["a"], ("a",), ["", ""], ["a"] * 12, ("a",) * 12, ["a" * 40]]:
            self.assertIs(is_text(value), True)
            self.assertIs(is_text(value=value), True)

    def test_no_texts(self):
        for value in [*NO_LISTINGS, ["a"] * 13, ("a",) * 13, [["a"]], "abc"]:
            self.assertIs(is_text(value), False)
        for line in NO_LINES:
            self.assertIs(is_text([line]), False)
            self.assertIs(is_text(("a", line)), False)
            self.assertIs(is_text([line, "a"]), False)

    def test_defined_in_their_file(self):
        for thing in [is_line, is_text, Layout]:
            self.assertEqual(thing.__module__, layouts.__name__)


class TestLayout(Case):

    def test_properties(self):
        plain = Layout()
        self.assert_same([plain.ignored, plain.folded], ["", False])
        layout = Layout(folded=True, ignored="zb a!")
        self.assert_same([layout.ignored, layout.folded], [" !abz", True])
        self.assert_fixed(layout, "ignored", "folded")
        self.assert_own_methods(Layout, "__init__", "__call__", "__eq__", "ignored", "folded")

    def test_only_by_name(self):
        with self.assertRaises(TypeError):
            Layout("a")

    def test_ignored(self):
        for value in ["", " ", "~", "abcdefgh", "hgfedcba", "a b", "aA"]:
            self.assert_same(Layout(ignored=value).ignored, "".join(sorted(value)))
        for value in [*NO_STRINGS, "abcdefghi", "aa", "aba", "a a b ", "a\n", *NO_MARKS]:
            self.assert_refused(InvalidLayout, value, Layout, ignored=value)

    def test_folded(self):
        for value in [None, 0, 1, 2, "", "a", "True", [], (), [True], {}, object(), 1.0, 0.0, AGREEABLE, bool]:
            self.assert_refused(InvalidLayout, value, Layout, folded=value)
            self.assert_refused(InvalidLayout, value, Layout, ignored="a", folded=value)

    def test_wrong_ignored_comes_first(self):
        for ignored in [None, "aa", "abcdefghi"]:
            for folded in [None, 1, "x"]:
                self.assert_refused(InvalidLayout, ignored, Layout, folded=folded, ignored=ignored)

    def test_keys(self):
        for ignored, folded, line, wanted in [
                ("", False, "  End If", "  End If"), (" ", False, "  End If", "EndIf"),
                ("", True, "  End If", "  end if"), (" ", True, "  End If", "endif"),
                ("e", True, "EeE", "ee"), ("E", True, "EeE", "e"), ("Ee", True, "EeE", ""),
                ("e", False, "EeE", "EE"), ("|", False, "a|b|", "ab"), ("abc", False, "cab", ""),
                ("", True, "AZaz[@`{09", "azaz[@`{09"), ("", True, "", ""), (" ;", True, "; A ;", "a")]:
            with self.subTest(line=line, ignored=ignored):
                layout = Layout(ignored=ignored, folded=folded)
                self.assert_same(layout(line), wanted)
                self.assert_same(layout(line=line), wanted)

    def test_only_letters_are_folded(self):
        layout = Layout(folded=True)
        for mark in ALL_MARKS:
            wanted = chr(ord(mark) + 32) if "A" <= mark <= "Z" else mark
            self.assertEqual(layout(mark), wanted)

    def test_longest_line(self):
        self.assertEqual(Layout(folded=True)("A" * 40), "a" * 40)

    def test_no_line(self):
        for layout in [Layout(), Layout(ignored="a", folded=True)]:
            for value in NO_LINES:
                self.assert_refused(InvalidText, value, layout, value)
                self.assert_refused(InvalidText, value, layout, line=value)

    def test_equality(self):
        self.assert_equal_objects(Layout(), Layout(ignored="", folded=False))
        self.assert_equal_objects(Layout(ignored="ab", folded=True), Layout(ignored="ba", folded=True))
        self.assert_unequal(Layout(), Layout(folded=True))
        self.assert_unequal(Layout(), Layout(ignored=" "))
        self.assert_unequal(Layout(ignored="a"), Layout(ignored="A"))
        for value in [None, "", False, ("", False), AGREEABLE, object(), Layout]:
            self.assert_unequal(Layout(), value)
