"""Point [3]: one tree counted on behind another."""

import unittest

from headsgrow.errors import TooGreat
from headsgrow.trees import behind, compare
from tests.helper import Checks, deep, in_order, trees_within, wide, worth


def by_the_words(one, other):
    """Point [3], each branch of the first one held against each of the second one's."""
    kept = [
        branch for branch in in_order(one)
        if all(worth(branch, held) >= 0 for held in other)
    ]
    return kept + in_order(other)


class Behind(Checks, unittest.TestCase):
    def test_the_issues_examples(self):
        self.assertEqual(behind([[]], [[[]]]), [[[]]])
        self.assertEqual(behind([[[]]], [[]]), [[[]], []])

    def test_the_second_one_empty(self):
        self.assertEqual(behind([[], [[], [[]]]], []), [[[[]], []], []])
        self.assertEqual(behind([], []), [])

    def test_the_first_one_empty(self):
        self.assertEqual(behind([], [[], [[], [[]]]]), [[[[]], []], []])

    def test_branches_that_are_worth_as_much_stay(self):
        self.assertEqual(behind([[[]], []], [[[]]]), [[[]], [[]]])
        self.assertEqual(behind([[]], [[]]), [[], []])
        self.assertEqual(behind([[[], [[]]]], [[[[]], []]]), [[[[]], []], [[[]], []]])

    def test_worth_no_less_than_all_of_the_second_ones(self):
        # [[]] is worth more than one of the second one's branches and less than the other.
        self.assertEqual(behind([[[]], [[[]]]], [[], [[], []]]), [[[[]]], [[], []], []])

    def test_the_second_ones_branches_all_stay(self):
        self.assertEqual(behind([[[[]]]], [[], [[]], []]), [[[[]]], [[]], [], []])

    def test_all_small_trees(self):
        trees = trees_within(5)
        for one in trees:
            for other in trees:
                self.assertEqual(behind(one, other), by_the_words(one, other))
                self.assertEqual(behind(one, other), in_order(behind(one, other)))

    def test_three_counted_on_either_way(self):
        trees = trees_within(4)
        for one in trees:
            for other in trees:
                for third in trees:
                    left = behind(behind(one, other), third)
                    self.assertEqual(left, behind(one, behind(other, third)))

    def test_what_is_counted_on_makes_it_worth_more(self):
        for one in trees_within(5):
            for other in trees_within(5)[1:]:
                self.assertEqual(compare(behind(one, other), one), 1)

    def test_just_300_knots(self):
        self.assertEqual(behind(wide(150), wide(151)), wide(300))
        self.assertEqual(behind(wide(300), []), wide(300))
        self.assertEqual(behind([], wide(300)), wide(300))
        self.assertEqual(behind(deep(40), wide(260)), deep(40) + wide(260))

    def test_more_than_300_knots(self):
        self.assert_refused(TooGreat, behind, wide(151), wide(151))
        self.assert_refused(TooGreat, behind, wide(300), [[]])
        self.assert_refused(TooGreat, behind, [[]], wide(300))
        self.assert_refused(TooGreat, behind, deep(40), wide(261))

    def test_only_the_answers_knots_count(self):
        self.assertEqual(behind(wide(300), [[[]]]), [[[]]])
        self.assertEqual(behind(wide(300), deep(40)), deep(40))
        self.assertEqual(behind(wide(300), [wide(299)]), [wide(299)])

    def test_its_lists_are_the_askers_own(self):
        leaf = []
        one = [leaf, [leaf, leaf]]
        self.assert_its_own(behind(one, one), one)
        for tree in trees_within(4):
            self.assert_its_own(behind(tree, one), tree, one)
            self.assert_its_own(behind(one, tree), tree, one)
            self.assert_its_own(behind([], tree), tree)
            self.assert_its_own(behind(tree, []), tree)

    def test_nothing_handed_in_is_changed_or_kept(self):
        one, other = [[], [[], [[]]]], [[], [[]]]
        answer = behind(one, other)
        self.assertEqual((one, other), ([[], [[], [[]]]], [[], [[]]]))
        answer[0].append([])
        answer.clear()
        self.assertEqual((one, other), ([[], [[], [[]]]], [[], [[]]]))
        self.assertEqual(behind(one, other), [[[[]], []], [[]], []])


if __name__ == "__main__":
    unittest.main()
