"""Point [2]: how a tree is told."""

import unittest

from headsgrow.trees import told
from tests.helper import Checks, deep, in_order, trees_within, wide, within


class Told(Checks, unittest.TestCase):
    def test_the_list_of_none(self):
        self.assertEqual(told([]), [])

    def test_from_the_branch_that_is_worth_most_on(self):
        self.assertEqual(told([[], [[]]]), [[[]], []])
        self.assertEqual(told([[], [[], []], [[[]]], [[]]]), [[[[]]], [[], []], [[]], []])

    def test_what_is_told_already_stays_so(self):
        self.assertEqual(told([[[]], []]), [[[]], []])

    def test_within_the_branches_likewise(self):
        self.assertEqual(told([[[], [[]]]]), [[[[]], []]])
        self.assertEqual(told([[], [[], [[], [[]]]]]), [[[[[]], []], []], []])

    def test_branches_are_ordered_by_what_they_tell_not_as_handed_in(self):
        # As handed in, [[], [[]]] would come behind [[[]]] as a list; told it is worth more.
        self.assertEqual(told([[[[]]], [[], [[]]]]), [[[[]], []], [[[]]]])

    def test_one_worthy_branch_comes_before_many_small_ones(self):
        self.assertEqual(told([[[] for _ in range(9)], [[[]]]]), [[[[]]], [[] for _ in range(9)]])

    def test_branches_that_are_worth_as_much_are_all_told(self):
        self.assertEqual(told([[[]], [], [[]], []]), [[[]], [[]], [], []])

    def test_all_small_trees(self):
        for tree in trees_within(7):
            self.assertEqual(told(tree), in_order(tree))

    def test_telling_what_is_told_changes_nothing(self):
        for tree in trees_within(7):
            self.assertEqual(told(told(tree)), told(tree))

    def test_a_knot_within_40_others(self):
        self.assertEqual(told(deep(40)), deep(40))
        self.assertEqual(told(within(39, [[], []])), within(39, [[], []]))
        self.assertEqual(told([[], deep(39)]), [deep(39), []])
        self.assertEqual(told(within(38, [[], [[]]])), within(38, [[[]], []]))

    def test_300_knots(self):
        self.assertEqual(told(wide(300)), wide(300))
        self.assertEqual(told(wide(299)[1:] + [[[]]]), [[[]]] + wide(299)[1:])
        self.assertEqual(told(wide(260) + [deep(39)]), [deep(39)] + wide(260))

    def test_a_list_that_stands_in_several_places(self):
        leaf = []
        pair = [leaf, [leaf]]
        tree = [leaf, pair, pair]
        answer = told(tree)
        self.assertEqual(answer, [[[[]], []], [[[]], []], []])
        self.assert_its_own(answer, tree)

    def test_no_list_is_one_that_was_handed_in(self):
        for tree in trees_within(5):
            self.assert_its_own(told(tree), tree)

    def test_what_was_handed_in_is_not_changed(self):
        inner = [[], [[]]]
        tree = [[], inner]
        told(tree)
        self.assertEqual(tree, [[], [[], [[]]]])
        self.assertIs(tree[1], inner)

    def test_what_was_handed_in_is_not_kept(self):
        tree = [[], [[]]]
        answer = told(tree)
        tree[1].append([[[]]])
        tree.append([])
        self.assertEqual(answer, [[[]], []])
        self.assertEqual(told(tree), [[[[[]]], []], [], []])

    def test_what_is_told_can_be_changed_by_the_asker(self):
        tree = [[], [[]]]
        answer = told(tree)
        answer[0].append([[]])
        answer.pop()
        self.assertEqual(tree, [[], [[]]])
        self.assertEqual(told(tree), [[[]], []])


if __name__ == "__main__":
    unittest.main()
