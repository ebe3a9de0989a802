"""Papers for origins as text."""

from lineorigins.errors import InvalidText, ParseError
from lineorigins.kinds import are_written_counts
from lineorigins.places import format_link
from lineorigins.ratios import Ratio


class Draft:
    """An entry of a paper, as far as its lines have been read; what has not been read yet is None."""

    def __init__(self, number):
        self.number = number
        self.telling = []
        self.ahead = None
        self.behind = None
        self.rows = []

    def is_whole(self):
        return self.behind is not None

    def entry(self):
        return (self.number, tuple(self.telling), self.ahead, self.behind, tuple(self.rows))


def format_paper(paper):
    """The text of a paper for origins."""
    lines = []
    for number, telling, prices_ahead, prices_behind, rows in paper:
        lines.append(f"entry {number}")
        lines.extend([_format_part(part) for part in telling])
        lines.append(" ".join(["ahead"] + [ratio.text for ratio in prices_ahead]))
        lines.append(" ".join(["behind"] + [ratio.text for ratio in prices_behind]))
        lines.extend([" ".join(["row", str(index)] + [format_link(link) for link in links]) for index, links in rows])
    return "\n".join(lines)


def parse_paper(text):
    """The paper for origins that is written like this, whether or not it is accepted for anything."""
    if not isinstance(text, str):
        raise ParseError(None)
    if text == "":
        return ()
    drafts = []
    lines = text.split("\n")
    for index, line in enumerate(lines):
        if not _read_line(drafts, line.split(" ")):
            raise ParseError(index)
    if not drafts[-1].is_whole():
        raise ParseError(len(lines))
    return tuple([draft.entry() for draft in drafts])


def _format_part(part):
    if part[0] == "new":
        return "part new"
    _, source, first, length = part
    return f"part take {source} {first} {length}"


def _read_line(drafts, words):
    """Read a line into the last entry, or into a new one; tells whether it is written right and can stand there."""
    word = words[0]
    rest = words[1:]
    if word == "entry":
        return _read_entry(drafts, rest)
    if not drafts:
        return False
    draft = drafts[-1]
    if word == "part":
        return _read_part(draft, rest)
    if word == "ahead":
        return _read_ahead(draft, rest)
    if word == "behind":
        return _read_behind(draft, rest)
    return word == "row" and _read_row(draft, rest)


def _read_entry(drafts, words):
    if drafts and not drafts[-1].is_whole() or len(words) != 1 or not are_written_counts(words):
        return False
    drafts.append(Draft(int(words[0])))
    return True


def _read_part(draft, words):
    if draft.ahead is not None:
        return False
    if words == ["new"]:
        draft.telling.append(("new",))
        return True
    if len(words) != 4 or words[0] != "take" or not are_written_counts(words[1:]):
        return False
    draft.telling.append(("take", int(words[1]), int(words[2]), int(words[3])))
    return True


def _read_ahead(draft, words):
    if draft.ahead is not None:
        return False
    draft.ahead = _read_ratios(words)
    return draft.ahead is not None


def _read_behind(draft, words):
    if draft.ahead is None or draft.behind is not None:
        return False
    draft.behind = _read_ratios(words)
    return draft.behind is not None


def _read_row(draft, words):
    if not draft.is_whole() or len(words) == 0 or not are_written_counts(words[:1]):
        return False
    links = words[1:]
    if not all([_is_written_link(word) for word in links]):
        return False
    draft.rows.append((int(words[0]), tuple([_read_link(word) for word in links])))
    return True


def _read_ratios(words):
    """The ratios that these words are; None if one is none."""
    try:
        ratios = tuple([Ratio.from_text(word) for word in words])
    except InvalidText:
        return None
    return ratios


def _is_written_link(word):
    return word == "new" or word.count(".") == 1 and are_written_counts(word.split("."))


def _read_link(word):
    if word == "new":
        return None
    number, index = word.split(".")
    return (int(number), int(index))
