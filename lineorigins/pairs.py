"""Two lines at once."""

from lineorigins.errors import InvalidLine
from lineorigins.joints import Joints, head_at, head_ended, holds, place_under
from lineorigins.origins import origins
from lineorigins.places import check_place, is_place, places_of


def links_together(study, first, second):
    """The pairs of links that two lines of one version have in some cheapest telling, sorted."""
    check_places_of_one(study.history, first, second)
    number, index = first
    other = second[1]
    ways = study.ways(number)
    joints = Joints(ways, number)
    found = joints.together(index, other)
    return tuple([(link, beside) for link in ways.possible[index] for beside in ways.possible[other]
                  if holds(found[joints.head(index, link)], joints.head(other, beside))])


def origins_together(study, first, second):
    """The pairs of origins that two lines have in some telling of the whole history, sorted."""
    check_place(study.history, first)
    check_place(study.history, second)
    pairs = _stages(study, first, second)[-1]
    places = places_of(study.history, list(range(len(study.history))))
    ones = [one for one in places if head_ended(one) in pairs]
    return tuple([(one, other) for one in ones for other in places if holds(pairs[head_ended(one)], head_ended(other))])


def relation(study, first, second):
    """Whether two lines are surely, perhaps or never the same line."""
    check_place(study.history, first)
    check_place(study.history, second)
    ones = origins(study, *first)
    others = origins(study, *second)
    # The pairs of origins take much longer to find, and are needed only where these leave it open.
    if not any([one in others for one in ones]):
        return "never"
    if len(ones) == 1 and len(others) == 1:
        return "surely"
    same = [one == other for one, other in origins_together(study, first, second)]
    if all(same):
        return "surely"
    return "perhaps" if any(same) else "never"


def chains_together(study, first, second, pair):
    """Two chains with these origins that both lines have in one telling of the whole history; None if none are."""
    check_place(study.history, first)
    check_place(study.history, second)
    if not is_place(study.history, pair[0]) or not is_place(study.history, pair[1]):
        return None
    stages = _stages(study, first, second)
    heads = [(head_ended(pair[0]), head_ended(pair[1]))]
    if not _stand(stages[-1], heads[0]):
        return None
    for number, pairs in enumerate(reversed(list(stages[:-1]))):
        heads.append(_heads_before(Joints(study.ways(number), number), pairs, heads[-1]))
    heads.reverse()
    return _chain([both[0] for both in heads]), _chain([both[1] for both in heads])


def authors(study, number):
    """For each author of possible origins, how many lines of a version are surely and possibly by this author."""
    found = {}
    for index in range(len(study.history.version(number))):
        names = {study.history.version(place[0]).author: True for place in origins(study, number, index)}
        for name in names:
            sure, possible = found.get(name, (0, 0))
            found[name] = (sure + 1 if len(names) == 1 else sure, possible + 1)
    return found


def check_places_of_one(history, first, second):
    """Refuses what are no places of lines of one version."""
    check_place(history, first)
    check_place(history, second)
    if first[0] != second[0]:
        raise InvalidLine(second)


def _stages(study, first, second):
    """Where the heads of the chains of two lines can stand together, before and after each version is told.

    A stage is a dict from the heads of the one chain to the sets of those of the other. The last version is told
    first: links lead to smaller numbers, so when a version is told, both chains have come to it if they ever do.
    """
    stages = [{head_at(first): 1 << head_at(second)}]
    for number in reversed(range(max(int(first[0]), second[0]) + 1)):
        joints = Joints(study.ways(number), number)
        pairs = {}
        for head, others in stages[-1].items():
            for goal, beside in joints.told(head, others):
                pairs[goal] = pairs.get(goal, 0) | beside
        stages.append(pairs)
    return stages


def _stand(pairs, heads):
    """Whether these two heads stand together at a stage."""
    return holds(pairs.get(heads[0], 0), heads[1])


def _heads_before(joints, pairs, heads):
    """Two heads that stand together before a version is told, and can go on to these together."""
    for one in joints.before(heads[0]):
        for other in joints.before(heads[1]):
            if _stand(pairs, (one, other)) and _go_on(joints.told(one, 1 << other), heads):
                return one, other
    return None


def _go_on(told, heads):
    return any([goal == heads[0] and holds(beside, heads[1]) for goal, beside in told])


def _chain(heads):
    """The places that a chain comes to, from its heads one after the other."""
    found = []
    for head in heads:
        if place_under(head) not in found:
            found.append(place_under(head))
    return tuple(found)
