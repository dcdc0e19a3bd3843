"""Point [3]: two trees put together."""

import unittest

from headsgrow.errors import TooGreat
from headsgrow.trees import compare, together
from tests.helper import Checks, deep, in_order, trees_within, wide


class Together(Checks, unittest.TestCase):
    def test_all_branches_of_both_told(self):
        self.assertEqual(together([[]], [[[]]]), [[[]], []])
        self.assertEqual(together([[], [[]]], [[[], [[]]], []]), [[[[]], []], [[]], [], []])

    def test_with_the_list_of_none(self):
        self.assertEqual(together([], []), [])
        self.assertEqual(together([[], [[]]], []), [[[]], []])
        self.assertEqual(together([], [[], [[]]]), [[[]], []])

    def test_branches_that_are_worth_as_much_all_stay(self):
        self.assertEqual(together([[[]], []], [[[]], []]), [[[]], [[]], [], []])

    def test_all_small_trees(self):
        trees = trees_within(5)
        for one in trees:
            for other in trees:
                self.assertEqual(together(one, other), in_order(one + other))
                self.assertEqual(together(one, other), together(other, one))

    def test_each_branch_put_to_it_is_worth_more(self):
        for one in trees_within(5):
            for other in trees_within(5)[1:]:
                self.assertEqual(compare(together(one, other), one), 1)

    def test_just_300_knots(self):
        self.assertEqual(together(wide(150), wide(151)), wide(300))
        self.assertEqual(together(wide(300), []), wide(300))
        self.assertEqual(together([], wide(300)), wide(300))
        self.assertEqual(together(deep(40), wide(260)), deep(40) + wide(260))

    def test_more_than_300_knots(self):
        self.assert_refused(TooGreat, together, wide(151), wide(151))
        self.assert_refused(TooGreat, together, wide(300), [[]])
        self.assert_refused(TooGreat, together, [[]], wide(300))
        self.assert_refused(TooGreat, together, wide(300), wide(300))
        self.assert_refused(TooGreat, together, deep(40), wide(261))
        self.assert_refused(TooGreat, together, [wide(299)], [wide(299)])

    def test_its_lists_are_the_askers_own(self):
        leaf = []
        one = [leaf, [leaf, leaf]]
        self.assert_its_own(together(one, one), one)
        for tree in trees_within(4):
            self.assert_its_own(together(tree, one), tree, one)
            self.assert_its_own(together(one, tree), tree, one)
            self.assert_its_own(together([], tree), tree)
            self.assert_its_own(together(tree, []), tree)

    def test_nothing_handed_in_is_changed_or_kept(self):
        one, other = [[], [[]]], [[], [[], [[]]]]
        answer = together(one, other)
        self.assertEqual((one, other), ([[], [[]]], [[], [[], [[]]]]))
        answer[0].append([])
        answer.clear()
        self.assertEqual((one, other), ([[], [[]]], [[], [[], [[]]]]))
        self.assertEqual(together(one, other), [[[[]], []], [[]], [], []])


if __name__ == "__main__":
    unittest.main()
