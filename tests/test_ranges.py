"""Ranges of positive numbers (point 17, what it says of ranges, and ranges.py)."""

import itertools

from lineorigins import ranges as module
from lineorigins.errors import InvalidRanges
from lineorigins.ranges import Ranges
from lineorigins.ratios import Ratio
from tests.support import AGREEABLE, NO_LISTINGS, NO_WHOLE_NUMBERS, RUDE, Case, digits

HALF = Ratio(1, 2)
SAMPLES = [
    (), ((0, None),), ((0, 1),), ((0, 2),), ((1, 1),), ((1, 2),), ((2, 3),), ((2, None),), ((1, None),), ((0, 1), (2, 3)),
    ((1, 2), (3, 4)), ((HALF, 1), (Ratio(3, 2), Ratio(5, 2)), (3, None)), ((0, 1), (2, 2), (3, None)), ((1, 1), (2, 2), (3, 3)),
    ((0, HALF), (1, Ratio(3, 2)), (2, Ratio(5, 2)), (4, 5)), ((Ratio(3, 4), Ratio(7, 2)),), ((4, 4),), ((5, None),)]
# Every end of the samples, numbers between each two of them, and numbers that are not positive.
POINTS = [Ratio(at, 8) for at in range(-8, 50)] + [Ratio(100), 0, 1, 2, 3, 4, 5, 100, -1]


def is_in(parts, number):
    return any([number > 0 and low <= number and (high is None or number <= high) for low, high in parts])


class TestRanges(Case):

    def test_parts(self):
        for parts in SAMPLES:
            for value in [parts, list(parts)]:
                found = Ranges(value)
                self.assertEqual(found.parts, parts)
                self.assertIs(type(found.parts), tuple)
                self.assertEqual({tuple} | {type(part) for part in found.parts}, {tuple})
                self.assertEqual({type(end) for part in found.parts for end in part} | {Ratio, type(None)},
                                 {Ratio, type(None)})

    def test_nothing(self):
        for found in [Ranges(), Ranges(()), Ranges([]), Ranges(parts=())]:
            self.assert_same(found.parts, ())
            self.assert_same([len(found), bool(found), list(found), 1 in found], [0, False, [], False])

    def test_whole(self):
        found = Ranges.whole()
        self.assertEqual(found.parts, ((0, None),))
        self.assertIs(type(found.parts[0][0]), Ratio)
        self.assert_equal_objects(found, Ranges(((0, None),)))
        for number in [1, Ratio(1, digits(200)), digits(200), Ratio(digits(200), 3)]:
            self.assertIs(number in found, True)
        for number in [0, Ratio(0), -1, Ratio(-1, 2), -digits(200)]:
            self.assertIs(number in found, False)

    def test_iteration(self):
        for parts in SAMPLES:
            found = Ranges(parts)
            self.assertEqual(list(found), list(found.parts))
            self.assertEqual([part for part in found], [part for part in found])
            self.assert_same(len(found), len(parts))
            self.assert_same(bool(found), parts != ())

    def test_numbers(self):
        for parts in SAMPLES:
            found = Ranges(parts)
            for number in POINTS:
                self.assertIs(number in found, is_in(parts, number), (parts, number))

    def test_ends_and_points(self):
        found = Ranges([(0, HALF), (1, 1), (2, 3), (5, None)])
        for number, wanted in [(0, False), (Ratio(1, 1000), True), (HALF, True), (Ratio(501, 1000), False),
                               (Ratio(999, 1000), False), (1, True), (Ratio(1), True), (Ratio(1001, 1000), False),
                               (Ratio(1999, 1000), False), (2, True), (Ratio(5, 2), True), (3, True),
                               (Ratio(3001, 1000), False), (4, False), (Ratio(4999, 1000), False), (5, True),
                               (10 ** 199, True), (-1, False), (Ratio(-1, 2), False)]:
            self.assertIs(number in found, wanted)

    def test_equality(self):
        for one, other in itertools.product(SAMPLES, repeat=2):
            if one == other:
                self.assert_equal_objects(Ranges(one), Ranges(list(other)))
            else:
                self.assert_unequal(Ranges(one), Ranges(other))
        self.assert_equal_objects(Ranges([(1, 2)]), Ranges([(Ratio(2, 2), Ratio(4, 2))]))
        for value in [None, (), [], ((1, 2),), [(1, 2)], 1, Ratio(1), AGREEABLE, object(), Ranges]:
            self.assert_unequal(Ranges([(1, 2)]), value)
            self.assert_unequal(Ranges(), value)

    def test_common(self):
        for one, other in itertools.product(SAMPLES, repeat=2):
            found = Ranges(one).common(Ranges(other))
            self.assertIs(type(found), Ranges)
            for number in POINTS:
                self.assertIs(number in found, is_in(one, number) and is_in(other, number))
            self.assert_equal_objects(found, Ranges(other).common(Ranges(one)))

    def test_joined(self):
        for one, other in itertools.product(SAMPLES, repeat=2):
            found = Ranges(one).joined(Ranges(other))
            self.assertIs(type(found), Ranges)
            for number in POINTS:
                self.assertIs(number in found, is_in(one, number) or is_in(other, number))
            self.assert_equal_objects(found, Ranges(other).joined(Ranges(one)))

    def test_none_and_all(self):
        for parts in SAMPLES:
            for one, other in [(Ranges(parts), Ranges()), (Ranges(), Ranges(parts))]:
                self.assertEqual([one.common(other).parts, one.joined(other).parts], [(), parts])
            for one, other in [(Ranges(parts), Ranges.whole()), (Ranges.whole(), Ranges(parts))]:
                self.assertEqual([one.common(other).parts, one.joined(other).parts], [parts, ((0, None),)])

    def test_written_results(self):
        for one, other, common, joined in [
                (((1, 2),), ((2, 3),), ((2, 2),), ((1, 3),)),
                (((1, 2),), ((3, 4),), (), ((1, 2), (3, 4))),
                (((0, 1),), ((0, 2),), ((0, 1),), ((0, 2),)),
                (((0, 1),), ((1, None),), ((1, 1),), ((0, None),)),
                (((1, 5),), ((2, 3),), ((2, 3),), ((1, 5),)),
                (((1, 2), (4, 5)), ((2, 4),), ((2, 2), (4, 4)), ((1, 5),)),
                (((1, 2), (4, 5)), ((3, 3),), (), ((1, 2), (3, 3), (4, 5))),
                (((1, 1), (2, 2)), ((1, 2),), ((1, 1), (2, 2)), ((1, 2),)),
                (((0, 1), (3, None)), ((HALF, 4),), ((HALF, 1), (3, 4)), ((0, None),)),
                (((1, None),), ((2, None),), ((2, None),), ((1, None),)),
                (((1, 3),), ((1, 2),), ((1, 2),), ((1, 3),))]:
            self.assertEqual(Ranges(one).common(Ranges(other)).parts, common)
            self.assertEqual(Ranges(one).joined(Ranges(other)).parts, joined)

    def test_results_have_ratios(self):
        found = [Ranges([(1, 3)]).common(Ranges([(2, None)])), Ranges([(1, 3)]).joined(Ranges([(4, 5)]))]
        self.assertEqual({type(end) for ranges in found for part in ranges.parts for end in part}, {Ratio})

    def test_operands_stay_as_they_are(self):
        for one, other in itertools.product(SAMPLES, repeat=2):
            first, second = Ranges(one), Ranges(other)
            first.common(second)
            first.joined(second)
            self.assertEqual([first.parts, second.parts], [one, other])
        both = Ranges([(1, 2), (3, 4)])
        self.assertEqual([both.common(both), both.joined(both)], [both, both])

    def test_many_ranges(self):
        evens = Ranges([(Ratio(2 * at), Ratio(2 * at + 1)) for at in range(1, 1400)])
        odds = Ranges([(Ratio(2 * at + 1), Ratio(2 * at + 2)) for at in range(1, 1400)])
        self.assertEqual(evens.joined(odds).parts, ((2, 2800),))
        self.assertEqual(len(evens.common(odds)), 2 * 1399 - 1)
        self.assertEqual([2799 in evens, 2800 in odds, 2801 in odds], [True, True, False])

    def test_later_changes_have_no_effect(self):
        parts = [(1, 2)]
        found = Ranges(parts)
        parts.append((3, 4))
        self.assertEqual(found.parts, ((1, 2),))

    def test_interface(self):
        self.assert_fixed(Ranges(), "parts")
        self.assert_own_methods(Ranges, "__init__", "__iter__", "__len__", "__bool__", "__contains__", "__eq__", "parts",
                                "common", "joined", "whole")
        self.assertIsInstance(vars(Ranges)["whole"], classmethod)
        self.assertEqual(Ranges.__module__, module.__name__)
        self.assertEqual(Ranges(parts=[(1, 2)]).common(other=Ranges([(2, 3)])).parts, ((2, 2),))
        self.assertEqual(Ranges(parts=[(1, 2)]).joined(other=Ranges([(2, 3)])).parts, ((1, 3),))


class TestWrongValues(Case):

    def assert_wrong(self, value):
        self.assert_refused(InvalidRanges, value, Ranges, value)
        self.assert_refused(InvalidRanges, value, Ranges, parts=value)

    def test_no_listing(self):
        for value in [*NO_LISTINGS, 1, Ratio(1), Ranges([(1, 2)])]:
            self.assert_wrong(value)

    def test_no_ranges(self):
        for part in [None, True, 0, 1, Ratio(1), "", "12", (), (1,), (1, 2, 3), [1, 2], {1: 2}, RUDE, AGREEABLE, (RUDE, RUDE),
                     (AGREEABLE, AGREEABLE), Ranges([(1, 2)]), ((1, 2),), (None, 1), (None, None)]:
            self.assert_wrong((part,))
            self.assert_wrong([part])
            self.assert_wrong([(Ratio(1, 9), Ratio(1, 8)), part])
        for value in [(1, 2), (0, None), [0, None], (0, 1)]:
            self.assert_wrong(value)

    def test_ends_of_other_kinds(self):
        for value in NO_WHOLE_NUMBERS:
            self.assert_wrong([(value, 2)])
            if value is not None:
                self.assert_wrong([(1, value)])
                self.assert_wrong([(0, value)])

    def test_ends_that_are_not_positive(self):
        for low, high in [(0, 0), (-1, 1), (-1, None), (-1, 0), (-2, -1), (0, -1), (1, 0), (1, -1), (Ratio(-1, 2), 1),
                          (0, Ratio(-1, 2)), (Ratio(0), Ratio(0)), (-digits(200), None)]:
            self.assert_wrong([(low, high)])
            self.assert_wrong(((low, high), (3, 4)))

    def test_ends_exchanged(self):
        for low, high in [(2, 1), (Ratio(1), HALF), (HALF, Ratio(1, 3)), (digits(200), 1)]:
            self.assert_wrong([(low, high)])
            Ranges([(high, low)])

    def test_order(self):
        for parts in [((3, 4), (1, 2)), ((1, 2), (1, 2)), ((1, 2), (2, 3)), ((1, 3), (2, 4)), ((1, 4), (2, 3)),
                      ((0, 1), (0, 2)), ((0, 1), (1, 1)), ((1, 1), (1, 1)), ((1, None), (2, 3)), ((0, None), (1, None)),
                      ((1, 2), (0, 3)), ((1, 2), (0, None)), ((1, 2), (4, 5), (5, 6)), ((1, 2), (4, None), (5, None)),
                      ((1, 2), (5, 6), (3, 4)), ((HALF, 1), (1, 2)), ((0, 1), (Ratio(999, 1000), 2))]:
            self.assert_wrong(parts)
            self.assert_wrong(list(parts))
        Ranges([(0, 1), (Ratio(1001, 1000), 2)])
