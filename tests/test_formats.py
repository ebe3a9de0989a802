"""Histories as text (point 7, formats.py, and point 3 k)."""

from lineorigins import formats
from lineorigins.errors import ParseError
from lineorigins.formats import format_history, parse_history
from lineorigins.histories import History, Version
from tests.examples import run_example
from tests.support import NO_STRINGS, Case, digits

EXAMPLE = r"""
>>> from lineorigins.formats import format_history, parse_history
>>> from lineorigins.histories import History, Version
>>> history = History([Version(['a', '']), Version(['a'], parents=[0], author='ann')])
>>> [format_history(history), parse_history(format_history(history)) == history]
['version anon -\n|a\n|\nversion ann 0\n|a', True]
"""
HEADS = [f"version a {'-' if number == 0 else number - 1}" for number in range(10)]
FULLEST = History([Version(["~" * 40] * 12, parents=range_of, author="abcdefgh") for range_of in
                   [[number - back for back in [3, 2, 1] if number >= back] for number in range(10)]])
HISTORIES = [
    ("", History()),
    ("version anon -", History([Version([])])),
    ("version anon -\n|", History([Version([""])])),
    ("version b -\nversion c -\nversion d 0,1", History([
        Version([], author="b"), Version([], author="c"), Version([], parents=[1, 0], author="d")])),
    ("version anon -\n||\n|| a |\n| \n|version anon -\n|-\n|version ann 0", History([
        Version(["|", "| a |", " ", "version anon -", "-", "version ann 0"])])),
    ("version version -\n|x", History([Version(["x"], author="version")])),
    ("\n".join(HEADS), History([Version([], parents=[n - 1] if n else [], author="a") for n in range(10)])),
    ("version a -\n" + "\n".join(["|x"] * 12) + "\nversion a 0", History([
        Version(["x"] * 12, author="a"), Version([], parents=[0], author="a")])),
    ("version a -\nversion a -\nversion a -\nversion a 0,1,2\n|" + "~" * 40, History([
        Version([], author="a")] * 3 + [Version(["~" * 40], parents=[2, 0, 1], author="a")])),
]


class TestFormats(Case):

    def assert_wrong(self, text, index):
        with self.assertRaises(ParseError) as caught:
            parse_history(text)
        self.assertIs(type(caught.exception), ParseError)
        self.assert_same(caught.exception.line, index)

    def test_example(self):
        self.assertEqual(*run_example(EXAMPLE))

    def test_both_ways(self):
        for text, history in HISTORIES:
            with self.subTest(text=text):
                self.assert_same(format_history(history), text)
                read = parse_history(text)
                self.assertIs(type(read), History)
                self.assertEqual(read, history)

    def test_by_name(self):
        self.assertEqual(format_history(history=History([Version([])])), "version anon -")
        self.assertEqual(parse_history(text="version anon -"), History([Version([])]))
        for thing in [format_history, parse_history]:
            self.assertEqual(thing.__module__, formats.__name__)

    def test_fullest_history_is_read_back(self):
        text = format_history(FULLEST)
        self.assertEqual(parse_history(text), FULLEST)
        self.assertEqual(text.count("\n"), 129)

    def test_every_mark_is_read_back(self):
        marks = "".join([chr(code) for code in range(ord(" "), ord("~") + 1)])
        history = History([Version([marks[:40], marks[40:80], marks[80:]])])
        self.assertEqual(parse_history(format_history(history)), history)

    def test_no_string(self):
        for value in [*NO_STRINGS, History()]:
            self.assert_refused(ParseError, None, parse_history, value, field="line")
            self.assert_refused(ParseError, None, parse_history, text=value, field="line")

    def test_first_line(self):
        for row in ["|", "|a", " ", "-", "version", "version ", "version a", "version a ", "version -", "a", "Version a -",
                    "version a -  ", "version a - ", " version a -", "version  a -", "version a  -", "version a - -",
                    "version A -", "version a1 -", "version abcdefghi -", "version  -", "version a --", "version a 0",
                    "version a ,", "version a -,", "versiona -", "ver\u017fion a -", "version\ta -", "version a -\r",
                    "version a None", "version a_b -", "version a 00"]:
            with self.subTest(row=row):
                self.assert_wrong(row, 0)
                self.assert_wrong(row + "\n|a", 0)

    def test_later_lines(self):
        for row in ["", " ", "a", " |a", "x|", "version", "version a", "version a 1", "version a 2", "version a -1",
                    "version a 0,", "version a ,0", "version a 0,0", "version a 0,1", "version a 0, 1", "version a 00",
                    "version a +0", "version a 0.", "version a \u0660", "version a 0 ", "|a\t", "|\x7f", "|\u00e9",
                    "|" + "a" * 41]:
            with self.subTest(row=row):
                self.assert_wrong("version a -\n|a\n" + row, 2)
                self.assert_wrong("version a -\n|a\n" + row + "\n?", 2)

    def test_first_of_several(self):
        self.assert_wrong("version a -\n|ok\nversion b 0\n|fine\nversion c 1,0\n|\nversion", 4)
        self.assert_wrong("?\n|", 0)
        self.assert_wrong("|a\nversion a -", 0)

    def test_line_feeds(self):
        for text, index in [("\n", 0), ("\nversion a -", 0), ("version a -\n", 1), ("version a -\n|a\n", 2),
                            ("version a -\n\n|a", 1), ("version a -\n|a\n\n", 2), ("\n\n", 0)]:
            self.assert_wrong(text, index)

    def test_twelfth_and_thirteenth_line(self):
        text = "version a -\n" + "\n".join(["|x"] * 12)
        self.assertEqual(len(parse_history(text).version(0)), 12)
        self.assert_wrong(text + "\n|x", 13)
        self.assert_wrong(text + "\n|", 13)
        self.assert_wrong(text + "\nversion a 0\n" + "\n".join(["|x"] * 13), 26)

    def test_forty_marks_and_more(self):
        self.assertEqual(parse_history("version a -\n|" + " " * 40).version(0)[0], " " * 40)
        self.assert_wrong("version a -\n|" + " " * 41, 1)

    def test_tenth_and_eleventh_version(self):
        text = "\n".join(HEADS)
        self.assertEqual(len(parse_history(text)), 10)
        for row in ["version a -", "version a 9", "version a 10"]:
            self.assert_wrong(text + "\n" + row, 10)
            self.assert_wrong(text + "\n|x\n" + row, 11)
        self.assertEqual(len(parse_history(text + "\n|x")), 10)

    def test_parents(self):
        start = "\n".join(["version a -"] * 6)
        for word, parents in [("-", ()), ("0", (0,)), ("5", (5,)), ("0,1", (0, 1)), ("0,1,2", (0, 1, 2)),
                              ("1,3,5", (1, 3, 5))]:
            history = parse_history(f"{start}\nversion b {word}")
            self.assert_same(history.version(6).parents, parents)
        for word in ["1,0", "0,0", "0,2,1", "1,1,2", "0,1,1", "0,1,2,3", "2,1,0", "6", "7", "0,6", "5,6", "01", "00",
                     "0,01", "1,02", "-1", "-0", "0,-", "-,0", "0;1", "0, 1", "0 1", "0,,1", ",", "0,1,2,", "", "10",
                     "1e0", "0x1", "1.", "\u0661", "1_", "0,1,2,3,4"]:
            with self.subTest(word=word):
                self.assert_wrong(f"{start}\nversion b {word}", 6)

    def test_30_digits_and_31(self):
        for many in [11, 29, 30, 31, 200, 5000]:
            word = "1" + "0" * (many - 1)
            self.assert_wrong(f"version a -\nversion a {word}", 1)
            self.assert_wrong(f"version a -\nversion a {'0' * many}", 1)
            self.assert_wrong(f"version a -\nversion a 0,{word}", 1)
        self.assert_wrong(f"version a -\nversion a {digits(30)}", 1)

    def test_no_carriage_returns(self):
        self.assert_wrong("version a -\r\n|a", 0)
        self.assert_wrong("version a -\n|a\r", 1)
        self.assert_wrong("version a -\n|a\x0b|b", 1)
        self.assert_wrong("version a -\n|a\u2028|b", 1)
