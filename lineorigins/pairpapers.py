"""Papers for the pairs of links of two lines of one version, which show that these and no others are possible."""

from lineorigins.bounds import Bounds, are_bounds, shared_price, study_bounds
from lineorigins.pairs import check_places_of_one, links_together
from lineorigins.places import is_ascending, is_link, is_tuple, link_key
from lineorigins.prices import prices_or_usual
from lineorigins.ratios import Ratio
from lineorigins.tellings import links_of
from lineorigins.ways import all_steps, first_tellings, keep_least, prices_from


def pair_paper(study, first, second):
    """A paper for the pairs of links that two lines have together."""
    pairs = links_together(study, first, second)
    number = first[0]
    told = _told_pairs(study.ways(number), first[1], second[1])
    tellings = tuple([told[pair] for pair in pairs])
    return (tellings,) + study_bounds(study, number) + (_prices_between(study, number),)


def accepts_pairs(history, first, second, pairs, value, *, prices=None):
    """Whether the value is a paper that is accepted for these pairs of links."""
    check_places_of_one(history, first, second)
    prices = prices_or_usual(prices)
    number, index = first
    other = second[1]
    if not _are_pairs(pairs) or not _has_form(value, len(history.version(number)) + 1):
        return False
    tellings, prices_ahead, prices_behind, between = value
    price = shared_price(history, number, tellings, prices)
    if price is None:
        return False
    links = [links_of(history, number, telling, prices=prices) for telling in tellings]
    if [(told[index], told[other]) for told in links] != list(pairs):
        return False
    bounds = Bounds(history, number, prices, price, (prices_ahead, prices_behind) + between)
    if not bounds.reach_price() or not bounds.hold():
        return False
    claimed = {pair: True for pair in pairs}
    return all([pair in claimed for pair in _open_pairs(bounds, index, other)])


def _told_pairs(ways, index, other):
    """For each pair of links that two lines have in some cheapest telling, such a telling."""
    if index > other:
        return {(link, beside): telling for (beside, link), telling in _told_pairs(ways, other, index).items()}
    rests = first_tellings(ways.steps, ways.size)
    found = {}
    for link in ways.possible[index]:
        parts = {0: ()}
        for step in ways.steps:
            if step.begin in parts and (not step.covers(index) or step.link(index) == link):
                told = parts[step.begin] + (step.part,)
                parts.setdefault(step.end, told)
                if step.covers(other):
                    found.setdefault((link, step.link(other)), told + rests[step.end])
    return found


def _prices_between(study, number):
    """The least prices of telling the lines from point to point, and 0 from a point to an earlier one."""
    scale = study.ways(number).scale
    steps = all_steps(study.history, number, study.prices, scale)
    rows = []
    for point in range(study.ways(number).size + 1):
        found = prices_from(steps, point)
        rows.append(tuple([Ratio(found.get(end, 0), scale) for end in range(study.ways(number).size + 1)]))
    return tuple(rows)


def _are_pairs(value):
    """Whether the value is a sorted tuple of at least one pair of links, without duplicates."""
    if not isinstance(value, tuple) or len(value) == 0:
        return False
    if not all([is_tuple(item, 2) and is_link(item[0]) and is_link(item[1]) for item in value]):
        return False
    return is_ascending([(link_key(link), link_key(beside)) for link, beside in value])


def _has_form(value, points):
    """Whether the value has the form of a paper for a version with so many points, whatever its tellings are."""
    if not is_tuple(value, 4) or not is_tuple(value[3], points):
        return False
    return are_bounds(value[1:3] + value[3], points)


def _open_pairs(bounds, index, other):
    """The pairs of links that are not shown to make a telling dearer than those of the paper."""
    if index > other:
        return [(link, beside) for beside, link in _open_pairs(bounds, other, index)]
    found = [(step.link(index), step.link(other)) for step in bounds.open_steps()
             if step.covers(index) and step.covers(other)]
    starts = {}
    ends = {}
    for step in bounds.steps:
        if step.covers(index):
            keep_least(starts, (step.link(index), step.end), bounds.ahead[step.begin] + step.price)
        if step.covers(other):
            keep_least(ends, (step.link(other), step.begin), step.price + bounds.behind[step.end])
    # A step that covers both lines is neither of two that follow each other.
    for (link, end), price in starts.items():
        for (beside, begin), rest in ends.items():
            if end <= begin and price + bounds.between[end][begin] + rest <= bounds.price:
                found.append((link, beside))
    return found
