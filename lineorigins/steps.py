"""The answers for all prices of a piece, all other prices being those of the study."""

from lineorigins.joints import head_at, holds
from lineorigins.places import is_place, line_of, places_of
from lineorigins.ranges import Ranges


def bends(study, number):
    """The ranges in which the cheapest tellings have one number of pieces, with this number and the price of the rest.

    At a price of a piece in such a range the cheapest tellings cost so many times this price, plus the rest.
    """
    study.history.version(number)
    return study.courses().course(number).bends


def steps(study):
    """The prices of a piece at which two such ranges of some version meet, ascending."""
    return study.courses().steps


def link_ranges(study, number, index, link):
    """The prices of a piece for which this link of a line is possible."""
    line_of(study.history, number, index)
    course = study.courses().course(number)
    return ranges_where(course.cells, [link in links for links in course.possible_links(index)])


def origin_ranges(study, number, index, origin):
    """The prices of a piece for which this origin of a line is possible."""
    line_of(study.history, number, index)
    if not is_place(study.history, origin):
        return Ranges()
    courses = study.courses()
    found = [holds(heads, head_at(origin)) for heads in courses.possible_origins((number, index))]
    return ranges_where(courses.cells, found)


def origin_table(study, number, index):
    """The possible origins of a line at each step, and in each open range below, between and above the steps."""
    line_of(study.history, number, index)
    courses = study.courses()
    places = places_of(study.history, list(range(number + 1)))
    found = []
    for cell, heads in zip(courses.cells, courses.possible_origins((number, index))):
        origins = tuple([place for place in places if holds(heads, head_at(place))])
        found.append((cell.low, cell.high, origins))
    return tuple(found)


def ranges_where(cells, flags):
    """The ranges of all prices in those cells that are flagged.

    What holds in an open range holds at its ends, too: at a step some more tellings are cheapest, and none fewer.
    """
    found = []
    going_on = False
    for cell, flag in zip(cells, flags):
        if flag and going_on:
            found[-1] = (found[-1][0], cell.high)
        elif flag:
            found.append((cell.low, cell.high))
        going_on = flag
    return Ranges(found)
