"""What papers say of the prices ahead of, behind and between the points of a version, and how that is checked."""

from lineorigins.cheapest import ahead, behind
from lineorigins.ratios import Ratio, scaled
from lineorigins.tellings import is_telling, price_of
from lineorigins.ways import all_steps, price_scale


class Bounds:
    """The bounds of a paper beside all steps of the version, with the price of the tellings, on one scale.

    The first row of bounds is for what is ahead of each point, the second one for what is behind it; a further one
    for each point, if there are any, is for what is between it and each point.
    """

    def __init__(self, history, number, prices, price, rows):
        scale = price_scale(prices, [bound for row in rows for bound in row])
        on_scale = [[scaled(bound, scale) for bound in row] for row in rows]
        self.price = scaled(price, scale)
        self.steps = all_steps(history, number, prices, scale)
        self.ahead = on_scale[0]
        self.behind = on_scale[1]
        self.between = on_scale[2:]

    def reach_price(self):
        """Whether the bound ahead of the end is the price of the tellings."""
        return self.ahead[-1] == self.price

    def hold(self):
        """Whether no step shows that a bound is too high."""
        if self.behind[-1] != 0 or self.ahead[-1] > self.price or not self._hold_from(0, self.ahead):
            return False
        if not all([self._hold_from(point, row) for point, row in enumerate(self.between)]):
            return False
        return all([self.behind[step.begin] <= self.behind[step.end] + step.price for step in self.steps])

    def open_steps(self):
        """The steps that are not shown to cost more, with what is ahead and behind, than the tellings."""
        return [step for step in self.steps
                if self.ahead[step.begin] + step.price + self.behind[step.end] <= self.price]

    def _hold_from(self, start, row):
        """Whether no step shows that a bound on the price from this point on is too high."""
        if row[start] != 0:
            return False
        return all([row[step.end] <= row[step.begin] + step.price for step in self.steps if step.begin >= start])


def study_bounds(study, number):
    """The bounds that a paper of the program has ahead and behind."""
    return ahead(study, number), behind(study, number)


def are_bounds(rows, points):
    """Whether each row is a tuple with a ratio for each of so many points."""
    for row in rows:
        if not isinstance(row, tuple) or len(row) != points or not all([isinstance(item, Ratio) for item in row]):
            return False
    return True


def shared_price(history, number, value, prices):
    """The price that all tellings of a paper have; None unless they are tellings of the version with one price."""
    if not isinstance(value, tuple) or len(value) == 0:
        return None
    if not all([is_telling(history, number, item, prices=prices) for item in value]):
        return None
    found = [price_of(history, number, telling, prices=prices) for telling in value]
    if not all([price == found[0] for price in found]):
        return None
    return found[0]
