"""Point [6]: what number a tree tells by a base, and which trees a base can't write."""

import copy
import unittest

from headsgrow.bases import number_of, written
from headsgrow.errors import BadBase, BadTree, TooGreat
from headsgrow.trees import told
from tests.helper import (
    NO_WHOLE_NUMBERS, Checks, deep, in_order, lists_of, trees_within, wide, within
)

TOP = 2 ** 400
NO_BASES = NO_WHOLE_NUMBERS + (1, 0, -1, -2, -10 ** 30)


def can_write(tree, base):
    """Point [6]: no knot has as many alike branches, told, as the base says."""
    for knot in lists_of(tree):
        branches = [in_order(branch) for branch in knot]
        if any(branches.count(branch) >= base for branch in branches):
            return False
    return True


def by_the_words(tree, base):
    """The sum of the base's powers, each branch an exponent."""
    return sum(base ** by_the_words(branch, base) for branch in tree)


class NumberOf(Checks, unittest.TestCase):
    def test_the_list_of_none(self):
        for base in (2, 3, 10, TOP, 10 ** 3000):
            self.assertEqual(number_of([], base), 0)
            self.assertIs(type(number_of([], base)), int)

    def test_small_trees(self):
        self.assertEqual(number_of([[]], 2), 1)
        self.assertEqual(number_of([[[]]], 2), 2)
        self.assertEqual(number_of([[[]]], 10), 10)
        self.assertEqual(number_of([[[[]]], [[]], []], 2), 7)
        self.assertEqual(number_of([[[[]]], [[]], []], 3), 27 + 3 + 1)
        self.assertEqual(number_of([[]] * 9, 10), 9)

    def test_the_branches_may_be_handed_in_in_any_order(self):
        self.assertEqual(number_of([[], [[]], [[[]]]], 2), 7)
        self.assertEqual(number_of([[], [[], [[]]]], 2), 9)
        self.assertEqual(number_of([[[], [[]]], []], 2), 9)
        self.assertEqual(number_of([[], [[], []], [], [[], []]], 10), 202)

    def test_all_small_trees(self):
        # Trees of 5 knots at most, so that every number can be worked out by the words.
        for tree in trees_within(5):
            for base in (2, 3, 4, 5):
                if not can_write(tree, base):
                    self.assert_refused(BadBase, number_of, tree, base)
                elif by_the_words(tree, base) >= TOP:
                    self.assert_refused(TooGreat, number_of, tree, base)
                else:
                    number = number_of(tree, base)
                    self.assertEqual(number, by_the_words(tree, base))
                    self.assertIs(type(number), int)
                    self.assertEqual(written(number, base), told(tree))

    def test_which_small_trees_a_base_can_write(self):
        for tree in trees_within(7):
            for base in (2, 3, 4):
                if can_write(tree, base):
                    try:
                        self.assertEqual(written(number_of(tree, base), base), told(tree))
                    except TooGreat:
                        self.assertGreater(len(lists_of(tree)), 4)
                else:
                    self.assert_refused(BadBase, number_of, tree, base)

    def test_a_list_that_stands_in_several_places(self):
        leaf = []
        self.assertEqual(number_of([[leaf], leaf, leaf], 3), 5)
        self.assert_refused(BadBase, number_of, [[leaf], leaf, leaf], 2)

    def test_the_tree_stays_as_it_is(self):
        tree = [[], [[], [[]]], [[]]]
        before = copy.deepcopy(tree)
        number_of(tree, 2)
        self.assert_refused(BadBase, number_of, tree, None)
        self.assert_refused(TooGreat, number_of, tree, TOP)
        self.assertEqual(tree, before)


class NotWritten(Checks, unittest.TestCase):
    def test_as_many_alike_branches_at_the_root(self):
        for base in (2, 3, 7, 299):
            self.assertEqual(number_of([[]] * (base - 1), base), base - 1)
            self.assert_refused(BadBase, number_of, [[]] * base, base)
        self.assert_refused(BadBase, number_of, [[]] * 8, 7)
        self.assert_refused(BadBase, number_of, [[[]], [[]]], 2)
        self.assertEqual(number_of([[[]], [[]]], 3), 6)

    def test_as_many_alike_branches_within(self):
        self.assert_refused(BadBase, number_of, [[[], []]], 2)
        self.assert_refused(BadBase, number_of, [[[]], [[[], []]]], 2)
        self.assert_refused(BadBase, number_of, [[], [[[[], [], []]]]], 3)
        self.assertEqual(number_of([[[], []]], 3), 9)

    def test_alike_as_told(self):
        self.assert_refused(BadBase, number_of, [[[], [[]]], [[[]], []]], 2)
        self.assertEqual(number_of([[[], [[]]], [[[]], []]], 3), 2 * 81)
        self.assert_refused(BadBase, number_of, [[[[], [[]]], [], [[[]], []]]], 2)

    def test_alike_ones_that_do_not_stand_side_by_side(self):
        self.assert_refused(BadBase, number_of, [[], [[]], []], 2)
        self.assert_refused(BadBase, number_of, [[[]], [], [[]], [], [[]]], 3)
        self.assertEqual(number_of([[[]], [], [[]], [], [[]]], 4), 14)

    def test_many_branches_that_are_not_alike(self):
        self.assertEqual(number_of([written(at, 2) for at in range(8)], 2), 255)
        self.assertEqual(number_of([written(at, 3) for at in range(8)] * 2, 3), 3 ** 8 - 1)

    def test_where_the_number_would_be_too_great_as_well(self):
        self.assert_refused(BadBase, number_of, within(38, [[], []]), 2)
        self.assert_refused(BadBase, number_of, [deep(20), deep(20)], 2)


class Refused(Checks, unittest.TestCase):
    def test_no_base(self):
        for base in NO_BASES:
            for tree in ([], [[]], [[[]], []], deep(40), wide(300)):
                self.assert_refused(BadBase, number_of, tree, base)

    def test_the_tree_goes_first(self):
        for tree in (None, [[], None], wide(301), deep(41), ([],), "()", 7, True):
            for base in (2, 1, None, True):
                self.assert_refused(BadTree, number_of, tree, base)

    def test_just_below_2_multiplied_400_times(self):
        self.assertEqual(number_of([[[]]], TOP - 1), TOP - 1)
        self.assertEqual(number_of([[[], []], [[]], [[]]], 2 ** 200 - 1), TOP - 1)
        self.assertEqual(number_of([[[]], []], TOP - 2), TOP - 1)
        self.assertEqual(number_of([[[], []]], 2 ** 200 - 1), (2 ** 200 - 1) ** 2)
        self.assertEqual(number_of([written(399, 2)], 2), 2 ** 399)
        self.assertEqual(number_of([written(399, 2), []], 2), 2 ** 399 + 1)

    def test_just_2_multiplied_400_times(self):
        self.assert_refused(TooGreat, number_of, [[[]]], TOP)
        self.assert_refused(TooGreat, number_of, [[[]], []], TOP - 1)
        self.assert_refused(TooGreat, number_of, [[[], []]], 2 ** 200)
        self.assert_refused(TooGreat, number_of, [[[], []], [[]], [[]], []], 2 ** 200 - 1)
        self.assert_refused(TooGreat, number_of, [written(400, 2)], 2)
        self.assert_refused(TooGreat, number_of, [written(399, 3)] * 2, 3)

    def test_powers_that_are_below_it_and_their_sum_is_not(self):
        self.assertEqual(number_of([[[]]], 2 ** 399), 2 ** 399)
        self.assert_refused(TooGreat, number_of, [[[]], [[]]], 2 ** 399)
        self.assert_refused(TooGreat, number_of, [[[]]] * 3, 2 ** 399)

    def test_far_too_great_to_be_worked_out(self):
        for base in (2, 3, 10, 2 ** 64, 10 ** 3000):
            for others in (7, 8, 20, 40):
                self.assert_refused(TooGreat, number_of, deep(others), base)
                self.assert_refused(TooGreat, number_of, [deep(others - 1), []], base)
        self.assert_refused(TooGreat, number_of, within(38, [[[]], []]), 2)
        self.assert_refused(TooGreat, number_of, [[], [[]], [deep(36)], deep(38)], 2)

    def test_far_too_great_in_a_wide_tree(self):
        self.assert_refused(TooGreat, number_of, [wide(299)], 300)
        self.assert_refused(TooGreat, number_of, [deep(20)] * 14, 15)
        self.assert_refused(TooGreat, number_of, [[[[]] * 290]], 10 ** 3000)

    def test_a_base_of_any_size(self):
        for base in (TOP, 2 ** 401, 10 ** 3000):
            self.assertEqual(number_of(wide(300), base), 299)
            self.assertEqual(number_of([], base), 0)
            self.assert_refused(TooGreat, number_of, [[[]]], base)


if __name__ == "__main__":
    unittest.main()
