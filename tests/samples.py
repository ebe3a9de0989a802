"""Histories with prices that the tests of several files ask about."""

import functools
import random

from lineorigins.histories import History, Version
from lineorigins.layouts import Layout
from lineorigins.prices import Prices
from lineorigins.ratios import Ratio
from lineorigins.studies import Study
from tests.listing import Listing

FOLDED = Layout(ignored=" ", folded=True)
HALF = Ratio(1, 2)
THIRD = Ratio(1, 3)

# A piece that costs as much as the new lines, a farther source as much as a parent, an alike line as much as a piece.
PRICES = [
    Prices(), Prices(piece=HALF), Prices(piece=2), Prices(piece=3), Prices(far=1), Prices(piece=HALF, far=HALF),
    Prices(piece=THIRD, far=2), Prices(least=2), Prices(piece=2, least=2), Prices(piece=3, least=3),
    Prices(piece=2, far=1, least=3), Prices(piece=HALF, alike=HALF, layout=FOLDED),
    Prices(piece=THIRD, far=THIRD, alike=THIRD, layout=FOLDED), Prices(alike=1, layout=FOLDED),
    Prices(piece=THIRD, layout=FOLDED, least=2), Prices(piece=THIRD, alike=THIRD, layout=FOLDED, least=3)]
MOST_WHOLE = 2000
WORDS = [["a"], ["a", "b"], ["a", "A"], ["a", " a", "b"], ["a", "b", "c"]]


def the_history():
    """The history of the document's examples."""
    return History([Version(["a", "b"]), Version(["b", "a"], parents=[0], author="ann"), Version(["a"], parents=[1])])


def the_study():
    """The study of the document's examples."""
    return Study(the_history(), prices=Prices(piece=HALF))


def merged_history():
    """Version 3 has the parents 1 and 2, which both took what they have from version 0; version 4 stands aside."""
    return History([
        Version(["a", "b", "c"], author="ann"),
        Version(["b", "a"], parents=[0], author="bob"),
        Version(["c", "b", "x"], parents=[0], author="cid"),
        Version(["b", "x", "b", "c"], parents=[2, 1], author="dan"),
        Version(["b"], author="eve"),
        Version([], parents=[3])])


def some_history(source):
    """A small history; what it is depends only on the source of random numbers."""
    words = source.choice(WORDS)
    versions = []
    for number in range(source.randint(2, 4)):
        lines = [source.choice(words) for _ in range(source.choice([0, 1, 2, 2, 3, 3, 3, 4]))]
        parents = source.sample(range(number), min(number, source.choice([1, 1, 1, 2, 2, 3])))
        versions.append(Version(lines, parents=parents, author=source.choice(["ann", "bob"])))
    return History(versions)


@functools.cache
def samples():
    """Studies of small histories, each with the listing of its tellings; most of them have many tellings."""
    source = random.Random(7)
    found = []
    for history in [the_history(), merged_history()]:
        for prices in PRICES:
            found.append((Study(history, prices=prices), Listing(history, prices)))
    while len(found) < 240:
        prices = PRICES[len(found) % len(PRICES)]
        history = some_history(source)
        listing = Listing(history, prices)
        if len(found) % 3 == 0 or 6 <= listing.count_whole() <= MOST_WHOLE:
            found.append((Study(history, prices=prices), listing))
    return found


def striped_history():
    """Ten versions of twelve lines: every other line is the same in all, those between are of this version only."""
    versions = []
    for number in range(10):
        lines = ["a" if index % 2 == 0 else f"only {number} {index}" for index in range(12)]
        versions.append(Version(lines, parents=parents_of(number), author="ann" if number % 2 else "bob"))
    return History(versions)


def long_history(words=("a",), sizes=(12,) * 10):
    """Ten versions over a few words, which follow each other in a fixed way."""
    versions = []
    for number, size in enumerate(sizes):
        lines = [words[(index * index + number) // 2 % len(words)] for index in range(size)]
        versions.append(Version(lines, parents=parents_of(number), author="ann" if number % 2 else "bob"))
    return History(versions)


def parents_of(number):
    """The version before and, where there are so many, two more."""
    return sorted({number - 1, number // 2, number // 3} - {number, -1})


@functools.cache
def long_studies():
    """Studies with far too many tellings or chains to list them."""
    return [
        Study(long_history()),
        Study(long_history(), prices=Prices(piece=12, far=HALF)),
        Study(long_history(sizes=range(3, 13))),
        Study(long_history(("a", "b"))),
        Study(long_history(("a", "b")), prices=Prices(piece=2, least=2)),
        Study(long_history(("a", " A")), prices=Prices(piece=HALF, alike=HALF, layout=FOLDED)),
        Study(long_history(("a", " A", "b")), prices=Prices(piece=1, far=1, alike=1, layout=FOLDED)),
        Study(striped_history())]
