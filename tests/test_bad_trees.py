"""Point [1]: what is no tree to be asked with is refused at every door that takes one."""

import unittest

from headsgrow.bases import number_of
from headsgrow.cutting import cut, heads
from headsgrow.errors import BadTree, BadWay
from headsgrow.texts import read, text
from headsgrow.trees import behind, compare, together, told
from tests.helper import NO_LISTS, Checks, deep, wide, within

OF_TWO = (compare, together, behind)


class BadTrees(Checks, unittest.TestCase):
    def assert_no_tree(self, bad):
        for asked in (told, heads, text):
            self.assert_refused(BadTree, asked, bad)
        self.assert_refused(BadTree, cut, bad, [0], 1)
        self.assert_refused(BadTree, number_of, bad, 1000)
        for asked in OF_TWO:
            for good in ([], [[], [[]]], wide(300), deep(40)):
                self.assert_refused(BadTree, asked, bad, good)
                self.assert_refused(BadTree, asked, good, bad)
            self.assert_refused(BadTree, asked, bad, bad)

    def assert_a_tree(self, good):
        self.assertEqual(read(text(good)), told(good))
        for way in heads(good)[:1]:
            self.assertEqual(compare(good, cut(good, way, 0)), 1)
        self.assert_refused(BadWay, cut, good, [], 0)
        for asked in OF_TWO:
            asked(good, [])
            asked([], good)
        self.assertEqual(compare(good, good), 0)

    def test_what_is_no_list(self):
        for bad in NO_LISTS:
            with self.subTest(bad=bad):
                self.assert_no_tree(bad)

    def test_hung_in_somewhere_within(self):
        for bad in NO_LISTS:
            with self.subTest(bad=bad):
                self.assert_no_tree([bad])
                self.assert_no_tree([[], bad, []])
                self.assert_no_tree([[], [[], [[[], bad]]]])
                self.assert_no_tree(within(40, bad))
                self.assert_no_tree(wide(299) + [bad])

    def test_301_knots(self):
        self.assert_no_tree(wide(301))
        self.assert_no_tree([wide(300)])
        self.assert_no_tree([deep(29)] * 10)
        self.assert_no_tree(wide(261) + deep(40))

    def test_a_list_counts_at_each_place_it_stands_at(self):
        leaf = []
        self.assert_a_tree([leaf] * 299)
        self.assert_no_tree([leaf] * 300)
        self.assert_a_tree([[leaf] * 22] * 13)
        self.assert_no_tree([[leaf] * 29] * 10)

    def test_a_knot_within_41_others(self):
        self.assert_no_tree(deep(41))
        self.assert_no_tree([[], deep(40)])
        self.assert_no_tree([deep(40), []])
        self.assert_no_tree(within(40, [[], []]))

    def test_far_beyond_the_limits(self):
        self.assert_no_tree(deep(5000))
        self.assert_no_tree([[]] * 1000000)

    def test_a_list_within_itself(self):
        alone = []
        alone.append(alone)
        self.assert_no_tree(alone)
        self.assert_no_tree([[], [alone]])
        many = []
        many.extend([many, many, []])
        self.assert_no_tree(many)

    def test_lists_that_stand_in_each_other_twice(self):
        tree = []
        for _ in range(40):
            tree = [tree, tree]
        self.assert_no_tree(tree)

    def test_just_300_knots_and_just_40_others_are_no_fault(self):
        self.assert_a_tree(wide(300))
        self.assert_a_tree([wide(299)])
        self.assert_a_tree([deep(22)] * 13)
        self.assert_a_tree(deep(40))
        self.assert_a_tree([deep(39), deep(39)])
        self.assert_a_tree(within(39, [[], []]))
        self.assert_a_tree(wide(260) + deep(40))
        self.assert_a_tree([])

    def test_a_refused_tree_is_not_changed(self):
        bad = [[], [[]], None]
        self.assert_no_tree(bad)
        self.assertEqual(bad, [[], [[]], None])


if __name__ == "__main__":
    unittest.main()
