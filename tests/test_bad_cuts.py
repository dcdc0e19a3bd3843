"""Points [4] and [5], refused: no way, no times, and which refusal goes first."""

import unittest

from headsgrow.cutting import cut
from headsgrow.errors import BadTimes, BadTree, BadWay, TooGreat
from tests.helper import NO_WHOLE_NUMBERS, Checks, deep, wide

TREE = [[], [[], [[]]], [[]]]
NO_TIMES = NO_WHOLE_NUMBERS + (-1, -2, -10 ** 30)
NO_WAY_AT_ALL = (None, "", "0", "[0]", b"0", 0, 1, True, 1.5, (), (0,), {}, {0: 0}, {0}, range(1))


class BadWays(Checks, unittest.TestCase):
    def assert_no_way(self, way, tree=TREE):
        for times in (0, 1, 10 ** 9):
            self.assert_refused(BadWay, cut, tree, way, times)

    def test_what_is_no_list(self):
        for way in NO_WAY_AT_ALL:
            with self.subTest(way=way):
                self.assert_no_way(way)

    def test_a_way_to_the_root(self):
        self.assert_no_way([])
        self.assert_no_way([], [])
        self.assert_no_way([], [[]])

    def test_a_way_to_a_knot_with_branches(self):
        self.assert_no_way([1])
        self.assert_no_way([1, 1])
        self.assert_no_way([2])
        self.assert_no_way([0] * 39, deep(40))

    def test_a_way_to_no_knot(self):
        for way in ([3], [4], [1, 2], [1, 1, 1], [2, 1], [10 ** 30], [1, 10 ** 30], [300]):
            self.assert_no_way(way)
        self.assert_no_way([299], wide(300))
        self.assert_no_way([0], [])

    def test_a_way_on_from_a_head(self):
        self.assert_no_way([0, 0])
        self.assert_no_way([1, 1, 0, 0])
        self.assert_no_way([0] * 41, deep(40))
        self.assert_no_way([0] * 100000, deep(40))

    def test_counts_below_0(self):
        # From behind, each of these would lead to a head.
        for way in ([-3], [-1, 0], [-1, -1], [1, -2], [2, -1], [1, 1, -1], [-2, 0]):
            self.assert_no_way(way)

    def test_true_and_false_are_no_counts(self):
        for way in ([False], [True, 0], [True, False], [1, True, 0], [1, 1, False], [2, False]):
            self.assert_no_way(way)

    def test_what_is_no_whole_number_within(self):
        for bad in NO_WHOLE_NUMBERS:
            with self.subTest(bad=bad):
                self.assert_no_way([bad])
                self.assert_no_way([1, bad])
                self.assert_no_way([1, bad, 0])
                self.assert_no_way([2, 0, bad])

    def test_a_way_within_a_list(self):
        self.assert_no_way([[0]])
        self.assert_no_way([[1, 0]])
        self.assert_no_way([[]])
        itself = []
        itself.append(itself)
        self.assert_no_way(itself)

    def test_a_refused_way_is_not_changed(self):
        way, tree = [1, 1], [[], [[], [[]]]]
        self.assert_no_way(way, tree)
        self.assertEqual((way, tree), ([1, 1], [[], [[], [[]]]]))


class BadCounts(Checks, unittest.TestCase):
    def test_below_0_and_no_whole_number(self):
        for times in NO_TIMES:
            with self.subTest(times=times):
                self.assert_refused(BadTimes, cut, TREE, [1, 0], times)

    def test_on_the_root_too(self):
        for times in NO_TIMES:
            with self.subTest(times=times):
                self.assert_refused(BadTimes, cut, TREE, [0], times)


class InARow(Checks, unittest.TestCase):
    def test_the_tree_goes_first(self):
        for tree in (None, wide(301), deep(41), [[], None], ([],)):
            for way in ([0], [], None, [True]):
                for times in (0, -1, None, True, 10 ** 9):
                    self.assert_refused(BadTree, cut, tree, way, times)

    def test_then_the_way(self):
        for way in ([], None, [True], [1], [7]):
            for times in NO_TIMES + (10 ** 9,):
                self.assert_refused(BadWay, cut, TREE, way, times)

    def test_then_the_times_before_what_is_too_great(self):
        for times in NO_TIMES:
            self.assert_refused(BadTimes, cut, [wide(299)], [0, 0], times)
        self.assert_refused(TooGreat, cut, [wide(299)], [0, 0], 1)


if __name__ == "__main__":
    unittest.main()
