"""Papers for the links of a line, which show that these and no others are possible."""

from lineorigins.bounds import Bounds, are_bounds, shared_price, study_bounds
from lineorigins.cheapest import possible_links, telling_with
from lineorigins.places import are_links, is_tuple, line_of
from lineorigins.prices import prices_or_usual
from lineorigins.tellings import links_of


def link_paper(study, number, index):
    """The paper for the possible links of a line."""
    links = possible_links(study, number, index)
    tellings = tuple([telling_with(study, number, index, link) for link in links])
    return (tellings,) + study_bounds(study, number)


def accepts_links(history, number, index, links, value, *, prices=None):
    """Whether the value is a paper that is accepted for these links."""
    line_of(history, number, index)
    prices = prices_or_usual(prices)
    points = len(history.version(number)) + 1
    if not are_links(links) or not is_tuple(value, 3):
        return False
    tellings, prices_ahead, prices_behind = value
    price = shared_price(history, number, tellings, prices)
    if price is None or not are_bounds([prices_ahead, prices_behind], points):
        return False
    if [links_of(history, number, telling, prices=prices)[index] for telling in tellings] != list(links):
        return False
    bounds = Bounds(history, number, prices, price, [prices_ahead, prices_behind])
    if not bounds.reach_price() or not bounds.hold():
        return False
    return all([step.link(index) in links for step in bounds.open_steps() if step.covers(index)])
