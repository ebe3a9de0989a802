"""What two lines have together: their links in one telling, and where their chains stand.

A chain has a head: the place that it has come to, or its origin, once that is told to be new. Heads are numbered,
and a set of heads is an integer with a bit for each: so whole sets are joined at once, however many pairs there are.
"""

from lineorigins.histories import MOST_VERSIONS
from lineorigins.layouts import MOST_LINES


def head_at(place):
    """The head of a chain that has come to this place."""
    return place[0] * MOST_LINES + place[1]


def head_ended(place):
    """The head of a chain of which this place is the origin."""
    return MOST_VERSIONS * MOST_LINES + head_at(place)


def place_under(head):
    """The place of a head, ended or not."""
    return divmod(head % (MOST_VERSIONS * MOST_LINES), MOST_LINES)


def holds(heads, head):
    """Whether a head is in a set of heads; likewise for points."""
    return heads >> head & 1 == 1


class Joints:
    """The heads that chains at lines of one version go on to when it is told, alone and together."""

    def __init__(self, ways, number):
        self._number = number
        self._steps = [[step for step in ways.steps if step.covers(index)] for index in range(ways.size)]
        self._goals = [[self.head(index, link) for link in ways.possible[index]] for index in range(ways.size)]
        self._own = union([1 << head_at((number, index)) for index in range(ways.size)])
        self._ahead = []
        self._behind = []
        leads = _leads(ways)
        points = range(ways.size + 1)
        for index in range(ways.size):
            begins, ends = self._goals_at(index)
            self._ahead.append([union([ends[at] for at in points if holds(leads[at], point)]) for point in points])
            self._behind.append([union([begins[at] for at in points if holds(leads[point], at)]) for point in points])

    def head(self, index, link):
        """The head that a chain at this line goes on to with this link."""
        return head_ended((self._number, index)) if link is None else head_at(link)

    def together(self, index, other):
        """For each head that a line goes on to, the set of those that another line goes on to in the same tellings."""
        found = {}
        for step in self._steps[index]:
            goal = self.head(index, step.link(index))
            found[goal] = found.get(goal, 0) | self._beside(step, other)
        return found

    def told(self, head, others):
        """What a head and a set of others beside it go on to: heads, each with the set of those then beside it.

        Heads that stand elsewhere stay there.
        """
        here = self._lines_under(others)
        rest = others ^ (others & self._own)
        lines = self._lines_under(1 << head)
        if not lines:
            return [(head, union([rest] + [1 << goal for other in here for goal in self._goals[other]]))]
        found = [(goal, rest) for goal in self._goals[lines[0]]]
        for other in here:
            found.extend(list(self.together(lines[0], other).items()))
        return found

    def before(self, goal):
        """The heads that can go on to this one."""
        lines = [index for index, goals in enumerate(self._goals) if goal in goals]
        return [goal] + [head_at((self._number, index)) for index in lines]

    def _lines_under(self, heads):
        """The lines of this version at which heads of a set stand."""
        return [index for index in range(len(self._goals)) if holds(heads, head_at((self._number, index)))]

    def _goals_at(self, index):
        """For each point, the sets of the heads that the line goes on to by steps that begin, and that end, there."""
        begins = [0] * (len(self._goals) + 1)
        ends = [0] * (len(self._goals) + 1)
        for step in self._steps[index]:
            goal = 1 << self.head(index, step.link(index))
            begins[step.begin] = begins[step.begin] | goal
            ends[step.end] = ends[step.end] | goal
        return begins, ends

    def _beside(self, step, other):
        """The heads that a line goes on to in tellings with this step."""
        if step.covers(other):
            return 1 << self.head(other, step.link(other))
        if other < step.begin:
            return self._ahead[other][step.begin]
        return self._behind[other][step.end]


def union(sets):
    found = 0
    for one in sets:
        found = found | one
    return found


def _leads(ways):
    """For each point, the set of the points that cheapest tellings lead to from it, itself included."""
    found = [1 << point for point in range(ways.size + 1)]
    for step in reversed(list(ways.steps)):
        found[step.begin] = found[step.begin] | found[step.end]
    return found
