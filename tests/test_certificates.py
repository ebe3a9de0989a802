"""Papers for origins as text (points 24 and 3 (k), and certificates.py)."""

import math
import random
import re

from lineorigins import certificates as module
from lineorigins.certificates import format_paper, parse_paper
from lineorigins.errors import ParseError
from lineorigins.histories import History, Version
from lineorigins.originpapers import accepts_origins, origin_paper
from lineorigins.origins import origins
from lineorigins.prices import Prices
from lineorigins.ratios import Ratio
from lineorigins.studies import Study
from tests.examples import run_example
from tests.listing import NEW, take
from tests.samples import HALF, long_studies, samples, the_history, the_study
from tests.support import NO_STRINGS, Case, digits

EXAMPLE = r"""
>>> from lineorigins.histories import History, Version
>>> from lineorigins.studies import Study
>>> from lineorigins.originpapers import origin_paper
>>> from lineorigins.certificates import format_paper, parse_paper
>>> paper = origin_paper(Study(History([Version(['a', 'b'])])), 0, 0)
>>> [format_paper(paper), parse_paper(format_paper(paper)) == paper]
['entry 0\npart new\npart new\nahead 0 1 2\nbehind 2 1 0\nrow 0 new', True]
"""
COUNT = "(0|[1-9][0-9]{0,29})"
FORMS = {
    "entry": f"entry {COUNT}", "part": f"part (new|take {COUNT} {COUNT} {COUNT})", "ahead": "ahead(?P<ratios>( [^ ]+)*)",
    "behind": "behind(?P<ratios>( [^ ]+)*)", "row": rf"row {COUNT}( (new|{COUNT}\.{COUNT}))*"}
# What can stand behind a line of each kind, or at the beginning.
FOLLOWING = {
    None: ["entry"], "entry": ["part", "ahead"], "part": ["part", "ahead"], "ahead": ["behind"], "behind": ["row", "entry"],
    "row": ["row", "entry"]}
TEXT = """entry 3
part new
part take 0 1 2
ahead 0 1/2 3/2 -2
behind 2 -7/3 0
row 0 new 0.1 2.0
row 2 1.1
entry 0
part new
ahead 0 1
behind 1 0
row 0 new"""
PAPER = (
    (3, (NEW, take(0, 1, 2)), (Ratio(0), Ratio(1, 2), Ratio(3, 2), Ratio(-2)), (Ratio(2), Ratio(-7, 3), Ratio(0)),
     ((0, (None, (0, 1), (2, 0))), (2, ((1, 1),)))),
    (0, (NEW,), (Ratio(0), Ratio(1)), (Ratio(1), Ratio(0)), ((0, (None,)),)))


def is_written_ratio(word):
    found = re.fullmatch("(-?)(0|[1-9][0-9]{0,199})(/([1-9][0-9]{0,199}))?", word)
    if found is None or found[2] == "0" and word != "0":
        return False
    return found[4] is None or found[4] != "1" and math.gcd(int(found[2]), int(found[4])) == 1


def kind_of(line):
    """The kind of a line that is written right; None for others."""
    for kind, form in FORMS.items():
        found = re.fullmatch(form, line)
        if found and all(map(is_written_ratio, (found.groupdict().get("ratios") or "").split())):
            return kind
    return None


def wrong_line(text):
    """The index of the first wrong line, the number of lines if one is missing, None for a right text."""
    if text == "":
        return None
    before, lines = None, text.split("\n")
    for index, line in enumerate(lines):
        if kind_of(line) not in FOLLOWING[before]:
            return index
        before = kind_of(line)
    return None if before in ("behind", "row") else len(lines)


class PaperCase(Case):

    def assert_wrong(self, text, line):
        with self.assertRaises(ParseError) as caught:
            parse_paper(text)
        self.assertIs(type(caught.exception), ParseError)
        self.assert_same(caught.exception.line, line)

    def assert_read_like(self, text):
        """The text is read if it is right, and the wrong line is told if not."""
        line = wrong_line(text)
        if line is None:
            self.assertEqual(format_paper(parse_paper(text)), text)
        else:
            self.assert_wrong(text, line)
        return line


class TestFormat(PaperCase):

    def test_example(self):
        self.assertEqual(*run_example(EXAMPLE))

    def test_text(self):
        self.assert_same(format_paper(PAPER), TEXT)
        self.assert_same(parse_paper(TEXT), PAPER)

    def test_papers_of_the_document(self):
        study = the_study()
        paper = origin_paper(study, 2, 0)
        text = ("entry 2\npart take 0 0 1\nahead 0 1/2\nbehind 1/2 0\nrow 0 0.0 1.1\n"
                "entry 1\npart take 0 1 1\npart take 0 0 1\nahead 0 1/2 1\nbehind 1 1/2 0\nrow 1 0.0\n"
                "entry 0\npart new\npart new\nahead 0 1 2\nbehind 2 1 0\nrow 0 new")
        self.assert_same(format_paper(paper), text)
        self.assert_same(parse_paper(text), paper)

    def test_papers_are_read_back(self):
        for study, listing in samples():
            for place in listing.places:
                paper = origin_paper(study, *place)
                text = format_paper(paper)
                self.assertIsNone(wrong_line(text))
                found = parse_paper(text)
                self.assert_same(found, paper)
                self.assertEqual([type(item) for entry in found for row in entry[2:4] for item in row],
                                 [Ratio for entry in paper for row in entry[2:4] for _ in row])
                self.assertIs(accepts_origins(study.history, *place, origins(study, *place), found, prices=study.prices), True)

    def test_long_papers_are_read_back(self):
        for study in long_studies():
            for place in [(9, 0), (9, 5), (4, 2)]:
                paper = origin_paper(study, *place)
                text = format_paper(paper)
                self.assertLess(len(text), 20000)
                self.assertEqual(parse_paper(text), paper)

    def test_large_numbers(self):
        """Numbers of 200 digits in the prices, and sums of them that still have not more."""
        for piece in [digits(199), Ratio(1, digits(200)), Ratio(digits(199), digits(200) - 1)]:
            study = Study(the_history(), prices=Prices(piece=piece))
            paper = origin_paper(study, 1, 1)
            self.assertEqual(parse_paper(format_paper(paper)), paper)

    def test_nothing(self):
        self.assert_same(parse_paper(""), ())
        self.assert_same(format_paper(()), "")

    def test_entries_without_parts_rows_links_and_ratios(self):
        for text, paper in [
                ("entry 0\nahead\nbehind", ((0, (), (), (), ()),)),
                ("entry 0\nahead\nbehind\nrow 0", ((0, (), (), (), ((0, ()),)),)),
                ("entry 0\npart new\nahead 1\nbehind", ((0, (NEW,), (Ratio(1),), (), ()),)),
                ("entry 0\nahead\nbehind 1\nrow 1\nrow 1 new", ((0, (), (), (Ratio(1),), ((1, ()), (1, (None,)))),)),
                ("entry 0\nahead\nbehind\nentry 0\nahead\nbehind", ((0, (), (), (), ()),) * 2)]:
            self.assert_same(parse_paper(text), paper)
            self.assert_same(format_paper(paper), text)

    def test_papers_of_lines_of_empty_versions(self):
        study = Study(History([Version([]), Version(["a"], parents=[0])]))
        paper = origin_paper(study, 1, 0)
        self.assert_same(format_paper(paper), "entry 1\npart new\nahead 0 1\nbehind 1 0\nrow 0 new")

    def test_papers_that_fit_no_history(self):
        """Numbers need not fit, and entries, rows and links can stand in any order and several times."""
        text = ("entry 12345678901234567890\npart take 99 0 0\npart take 0 99 99\nahead -1/2\nbehind 7\nrow 99 99.99 0.0 new new 0.0\n"
                "row 5\nrow 5 new\nrow 4\nentry 99999999999999999999\nahead\nbehind\nentry 0\nahead\nbehind")
        found = parse_paper(text)
        self.assert_same(found[0][0], 12345678901234567890)
        self.assert_same(found[0][1], (take(99, 0, 0), take(0, 99, 99)))
        self.assert_same(found[0][4], ((99, ((99, 99), (0, 0), None, None, (0, 0))), (5, ()), (5, (None,)), (4, ())))
        self.assertEqual(format_paper(found), text)
        self.assertIs(accepts_origins(the_history(), 0, 0, ((0, 0),), found), False)

    def test_counts_of_30_and_31_digits(self):
        most, more = "9" * 30, "1" + "0" * 30
        lines = ["entry {}", "part take {} 0 0", "part take 0 {} 0", "part take 0 0 {}", "ahead", "behind", "row {}",
                 "row 0 {}.0", "row 0 0.{}", "row {} {}.{} new"]
        text = "\n".join(lines)
        found = parse_paper(text.replace("{}", most))
        self.assertEqual(found[0][0], int(most))
        self.assertEqual(format_paper(found), text.replace("{}", most))
        for at, line in enumerate(lines):
            if "{}" in line:
                for wrong in [more, "0" + most, "00", "-1", "+1", "", "1/2", "1.0", "x", "1_0"]:
                    changed = [other.replace("{}", "7") for other in lines]
                    changed[at] = line.replace("{}", wrong)
                    self.assert_wrong("\n".join(changed), at)

    def test_ratios_of_200_and_201_digits(self):
        for word in ["9" * 200, "-" + "9" * 200, "1/" + "9" * 200, "-" + "9" * 200 + "/1" + "0" * 199, "0", "-3/4"]:
            for text, at in [(f"entry 0\nahead {word}\nbehind", 2), (f"entry 0\nahead\nbehind 1 {word}", 3)]:
                found = parse_paper(text)
                self.assertEqual(found[0][at][-1], Ratio.from_text(word))
                self.assertEqual(format_paper(found), text)
        for word in ["9" * 201, "-" + "9" * 201, "1/" + "9" * 201, "9" * 201 + "/2", "-0", "00", "01", "2/4", "1/1", "0/1",
                     "1/0", "1/-2", "+1", "1.5", "x", "-", "/", "1/", "/2", "--1", "1 /2", "new"]:
            self.assert_wrong(f"entry 0\nahead 1 {word}\nbehind", 1)
            self.assert_wrong(f"entry 0\nahead\nbehind {word} 1", 2)

    def test_by_name(self):
        self.assertEqual(format_paper(paper=PAPER), TEXT)
        self.assertEqual(parse_paper(text=TEXT), PAPER)
        self.assertEqual([format_paper.__module__, parse_paper.__module__], [module.__name__] * 2)


class TestWrongTexts(PaperCase):

    def test_no_string(self):
        for value in NO_STRINGS:
            self.assert_wrong(value, None)

    def test_each_line_left_out(self):
        lines = TEXT.split("\n")
        found = [self.assert_read_like("\n".join(lines[:at] + lines[at + 1:])) for at in range(len(lines))]
        self.assertEqual(found, [0, None, None, 3, 4, None, None, 7, None, 9, 10, None])

    def test_each_line_repeated(self):
        lines = TEXT.split("\n")
        found = [self.assert_read_like("\n".join(lines[:at] + [lines[at]] * 2 + lines[at + 1:])) for at in range(len(lines))]
        self.assertEqual(found, [1, None, None, 4, 5, None, None, 8, None, 10, 11, None])

    def test_lines_exchanged(self):
        lines = TEXT.split("\n")
        seen = set()
        for one in range(len(lines)):
            for other in range(one):
                changed = list(lines)
                changed[one], changed[other] = lines[other], lines[one]
                seen.add(self.assert_read_like("\n".join(changed)))
        self.assertLessEqual({None, 0, 2, 3, 4, 7}, seen)

    def test_each_line_cut(self):
        lines = TEXT.split("\n")
        for at, line in enumerate(lines):
            for end in range(len(line)):
                for cut in [line[:end], line[end + 1:], line[:end] + line[end + 1:]]:
                    self.assert_read_like("\n".join([*lines[:at], cut, *lines[at + 1:]]))

    def test_the_text_cut(self):
        """A text that ends early is wrong where a line is missing, or in its last line."""
        lines = TEXT.split("\n")
        for many in range(1, len(lines)):
            self.assertEqual(self.assert_read_like("\n".join(lines[:many])),
                             many if lines[many - 1].split(" ")[0] in ("entry", "part", "ahead") else None)
        for end in range(1, len(TEXT)):
            self.assert_read_like(TEXT[:end])
            self.assert_read_like(TEXT[end:])

    def test_a_blank_more(self):
        for at in range(len(TEXT) + 1):
            text = TEXT[:at] + " " + TEXT[at:]
            self.assert_wrong(text, TEXT[:at].count("\n"))

    def test_a_line_feed_more(self):
        """At the end, at the beginning, and anywhere."""
        self.assert_wrong(TEXT + "\n", 12)
        self.assert_wrong("\n" + TEXT, 0)
        self.assert_wrong("\n", 0)
        self.assert_wrong("entry 0\nahead\nbehind\n", 3)
        for at in range(len(TEXT) + 1):
            self.assert_read_like(TEXT[:at] + "\n" + TEXT[at:])

    def test_a_character_more_or_another_one(self):
        source = random.Random(14)
        for at in range(len(TEXT) + 1):
            for mark in source.sample("0123456789/-. |nawxE~\n", 6):
                self.assert_read_like(TEXT[:at] + mark + TEXT[at:])
                self.assert_read_like(TEXT[:at] + mark + TEXT[at + 1:])

    def test_one_line(self):
        for line in [" ", "x", "entry", "Entry 0", "entry 0 ", " entry 0", "entry  0", "entry 0 0", "entry x", "entry -1",
                     "part new", "ahead", "behind", "row 0", "ahead 0 1", "row 0 new", "entries 0", "entry\t0"]:
            self.assert_wrong(line, 0)
        self.assert_wrong("entry 0", 1)

    def test_a_line_in_a_place(self):
        """Each of these lines behind the first lines of a text that goes on with others."""
        wrong = ["", "part", "part old", "part new new", "part take", "part take 0 0", "part take 0 0 1 0", "part take 0 0 -1",
                 "part take new", "new", "take 0 0 1", "ahead ", "ahead  0", "ahead 0,1", "aheads", "behind ", "behind x", "row",
                 "row ", "row x", "row new", "row 0 ", "row 0  new", "row 0 news", "row 0 0", "row 0 0.0.0", "row 0 .0", "row 0 0.",
                 "row 0 .", "row 0 0,0", "row 0 0.-1", "row 0 -1.0", "row 0 00.0", "row 0 0.00", "row 0 None", "row -1",
                 "rows 0", "entry", "entry ", "entry 00", "entry 0 new", "end"]
        lines = TEXT.split("\n")
        for many in range(len(lines) + 1):
            for line in wrong:
                self.assert_wrong("\n".join([*lines[:many], line, *lines[many:]]), many)
            for line in lines:
                self.assert_read_like("\n".join([*lines[:many], line, *lines[many:]]))

    def test_the_first_wrong_line_counts(self):
        self.assert_wrong("entry 0\nahead\nrow 0\nx", 2)
        self.assert_wrong("entry 0\nx\nahead\nrow 0", 1)
        self.assert_wrong("entry 0\npart new\nentry 1", 2)
        self.assert_wrong("entry 0\nahead\nentry 1", 2)
        self.assert_wrong("entry 0\nahead\npart new", 2)
        self.assert_wrong("entry 0\nbehind\nahead", 1)
        self.assert_wrong("entry 0\nahead\nbehind\npart new", 3)
        self.assert_wrong("entry 0\nahead\nbehind\nrow 0\nbehind", 4)
        self.assert_wrong("entry 0\nahead\nbehind\nrow 0\nentry 0", 5)
        self.assert_wrong("entry 0\nahead\nbehind\nrow 0\nentry 0\nahead", 6)
