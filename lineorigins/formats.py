"""Histories as text."""

from lineorigins.errors import ParseError
from lineorigins.histories import MOST_PARENTS, MOST_VERSIONS, History, Version
from lineorigins.kinds import is_name, is_written_count
from lineorigins.layouts import MOST_LINES, is_line


def format_history(history):
    """The text of a history."""
    rows = []
    for version in history:
        rows.append(f"version {version.author} {_format_parents(version.parents)}")
        rows.extend(["|" + line for line in version.lines])
    return "\n".join(rows)


def parse_history(text):
    """The history that is written like this."""
    if not isinstance(text, str):
        raise ParseError(None)
    if text == "":
        return History()
    drafts = []
    for index, row in enumerate(text.split("\n")):
        if row.startswith("|"):
            if not drafts or len(drafts[-1][2]) == MOST_LINES or not is_line(row[1:]):
                raise ParseError(index)
            drafts[-1][2].append(row[1:])
        else:
            heading = _read_heading(row, len(drafts))
            if heading is None:
                raise ParseError(index)
            drafts.append((*heading, []))
    return History([Version(lines, parents=parents, author=author) for author, parents, lines in drafts])


def _format_parents(parents):
    if not parents:
        return "-"
    return ",".join([str(parent) for parent in parents])


def _read_heading(row, number):
    """The author and the parents of the version with this number, or None if the row does not begin it."""
    words = row.split(" ")
    if number == MOST_VERSIONS or len(words) != 3 or words[0] != "version" or not is_name(words[1]):
        return None
    parents = _read_parents(words[2], number)
    if parents is None:
        return None
    return words[1], parents


def _read_parents(word, number):
    """The parents of the version with this number, or None if the word is not written like them."""
    if word == "-":
        return []
    parents = []
    for digits in word.split(","):
        if not is_written_count(digits) or int(digits) >= number:
            return None
        if parents and int(digits) <= parents[-1]:
            return None
        parents.append(int(digits))
    if len(parents) > MOST_PARENTS:
        return None
    return parents
