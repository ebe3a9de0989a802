"""Places of lines, and links, which lead to such places."""

from lineorigins.errors import InvalidLine
from lineorigins.kinds import is_count, is_index


def line_of(history, number, index):
    """The line at a place; raises the errors of a number and an index that are not there."""
    return history.version(number)[index]


def places_of(history, numbers):
    """The places of all lines of these versions, in order."""
    return [(number, index) for number in numbers for index in range(len(history.version(number)))]


def is_place(history, value):
    """Whether the value is the place of a line."""
    if not is_tuple(value, 2) or value[0] not in history:
        return False
    return is_index(value[1], len(history.version(value[0])))


def check_place(history, value):
    if not is_place(history, value):
        raise InvalidLine(value)


def is_link(value):
    """Whether the value has the form of a link: None or a tuple of two counts."""
    return value is None or is_tuple(value, 2) and is_count(value[0]) and is_count(value[1])


def are_links(value):
    """Whether the value is a sorted tuple of at least one link, without duplicates."""
    if not isinstance(value, tuple) or len(value) == 0 or not all([is_link(item) for item in value]):
        return False
    return is_ascending([link_key(link) for link in value])


def link_key(link):
    """What stands for a link in comparisons, where None comes first."""
    return () if link is None else link


def format_place(place):
    return f"{place[0]}.{place[1]}"


def format_link(link):
    return "new" if link is None else format_place(link)


def is_ascending(keys):
    """Whether each one is more than the one before."""
    return all([keys[at] < keys[at + 1] for at in range(len(keys) - 1)])


def is_tuple(value, size):
    return isinstance(value, tuple) and len(value) == size
