"""Point [5]: a head is cut, and what bore it grows again beside itself."""

import copy
import unittest

from headsgrow.cutting import cut, heads
from headsgrow.errors import TooGreat
from headsgrow.trees import compare, told
from tests.helper import Checks, deep, in_order, lists_of, trees_within, wide, within, worth


def by_the_words(tree, way, times):
    """Point [5], step by step, at a tree of its own."""
    left = copy.deepcopy(tree)
    bears_it, bears_that = left, None
    for place in way[:-1]:
        bears_it, bears_that = bears_it[place], bears_it
    bears_it.pop(way[-1])
    if bears_that is not None:
        for _ in range(times):
            bears_that.append(copy.deepcopy(bears_it))
    return in_order(left)


class OnTheRoot(Checks, unittest.TestCase):
    def test_it_is_cut_away_and_nothing_grows(self):
        for times in (0, 1, 2, 299, 300, 10 ** 6, 10 ** 1000):
            with self.subTest(times=len(str(times))):
                self.assertEqual(cut([[]], [0], times), [])
                self.assertEqual(cut([[], [[]], []], [2], times), [[[]], []])

    def test_nothing_grows_at_the_limit_either(self):
        self.assertEqual(cut(wide(300), [298], 10 ** 30), wide(299))

    def test_the_head_that_the_way_says_is_cut(self):
        self.assertEqual(cut([[[]], [], [[], []]], [1], 5), [[[], []], [[]]])


class Further(Checks, unittest.TestCase):
    def test_no_copy(self):
        self.assertEqual(cut([[[]]], [0, 0], 0), [[]])
        self.assertEqual(cut([[[], [[]]], []], [0, 1, 0], 0), [[[], []], []])

    def test_one_copy(self):
        self.assertEqual(cut([[[]]], [0, 0], 1), [[], []])
        self.assertEqual(cut([[[], []]], [0, 1], 1), [[[]], [[]]])

    def test_many_copies(self):
        self.assertEqual(cut([[[]]], [0, 0], 5), [[]] * 6)
        self.assertEqual(cut([[[], []]], [0, 0], 3), [[[]]] * 4)

    def test_all_that_is_left_on_it_is_on_each_copy(self):
        self.assertEqual(
            cut([[[], [[], []], []]], [0, 2], 2), [[[[], []], []]] * 3
        )

    def test_it_grows_on_what_bears_it_not_on_the_root(self):
        self.assertEqual(cut([[[[], []]]], [0, 0, 1], 2), [[[[]], [[]], [[]]]])
        self.assertEqual(cut([[[[]], []], []], [0, 0, 0], 1), [[[], [], []], []])

    def test_the_way_goes_by_the_branches_as_handed_in(self):
        self.assertEqual(cut([[], [[], []]], [1, 0], 1), [[[]], [[]], []])
        self.assertEqual(cut([[[], []], [[[], []], []]], [1, 0, 1], 0), [[[[]], []], [[], []]])
        self.assertEqual(cut([[], [[[]], []]], [1, 1], 0), [[[[]]], []])

    def test_what_is_left_is_told(self):
        self.assertEqual(cut([[], [[], [[]]], [[[]]]], [2, 0, 0], 1), [[[[]], []], [[], []], []])

    def test_all_small_trees(self):
        for tree in trees_within(6):
            for way in heads(tree):
                for times in (0, 1, 2, 7):
                    left = cut(tree, way, times)
                    self.assertEqual(left, by_the_words(tree, way, times))
                    self.assertEqual(left, told(left))

    def test_a_deep_tree(self):
        self.assertEqual(cut(deep(40), [0] * 40, 2), within(38, [[], [], []]))
        self.assertEqual(cut(within(39, [[], []])[0], [0] * 38 + [1], 1), within(37, [[[]], [[]]]))


class Worth(Checks, unittest.TestCase):
    def test_what_is_left_is_worth_less(self):
        for tree in trees_within(6):
            for way in heads(tree):
                for times in (0, 1, 9):
                    left = cut(tree, way, times)
                    self.assertEqual(compare(left, tree), -1)
                    self.assertEqual(worth(left, tree), -1)

    def test_cut_again_and_again_till_nothing_is_left(self):
        for tree in trees_within(4):
            cuts = 0
            while tree:
                cuts += 1
                left = cut(tree, heads(tree)[-1], min(cuts, 3))
                self.assertEqual(compare(left, tree), -1)
                tree = left
            self.assertLess(cuts, 500)
            self.assertEqual(heads(tree), [])

    def test_a_small_tree_cut_to_its_end(self):
        steps = []
        tree = [[[]], []]
        while tree:
            tree = cut(tree, heads(tree)[0], 2)
            steps.append(tree)
        self.assertEqual(steps, [[[], [], [], []], [[], [], []], [[], []], [[]], []])


class Sizes(Checks, unittest.TestCase):
    def test_just_300_knots(self):
        # 3 knots, one cut away, 298 copies of one knot: 300.
        self.assertEqual(cut([[[]]], [0, 0], 298), wide(300))
        # 4 knots, one cut away: root and one of 2 knots, and 148 of 2 more: 299, and one beside.
        self.assertEqual(cut([[[], []], []], [0, 0], 148), [[[]]] * 149 + [[]])
        self.assertEqual(cut([wide(299)], [0, 0], 0), [wide(298)])

    def test_one_knot_more(self):
        self.assert_refused(TooGreat, cut, [[[]]], [0, 0], 299)
        self.assert_refused(TooGreat, cut, [[[], []], [], []], [0, 0], 148)
        self.assert_refused(TooGreat, cut, [[[], []]], [0, 0], 150)
        self.assert_refused(TooGreat, cut, [wide(299)], [0, 0], 1)

    def test_times_of_any_size(self):
        for times in (300, 2 ** 63, 2 ** 64 + 1, 10 ** 30, 10 ** 5000):
            self.assert_refused(TooGreat, cut, [[[]]], [0, 0], times)
            self.assert_refused(TooGreat, cut, [[], [[[], []]]], [1, 0, 1], times)

    def test_only_what_is_left_counts(self):
        self.assertEqual(cut(wide(298) + [[[]]], [297, 0], 0), wide(299))
        self.assertEqual(cut(wide(298) + [[[]]], [297, 0], 1), wide(300))
        self.assert_refused(TooGreat, cut, wide(298) + [[[]]], [297, 0], 2)

    def test_a_refusal_changes_nothing(self):
        tree, way = [[], [[[], []]]], [1, 0, 1]
        self.assert_refused(TooGreat, cut, tree, way, 10 ** 9)
        self.assertEqual((tree, way), ([[], [[[], []]]], [1, 0, 1]))


class Own(Checks, unittest.TestCase):
    def test_no_two_copies_share_a_list(self):
        tree = [[[[], []], [[]]], []]
        for way in heads(tree):
            self.assert_its_own(cut(tree, way, 4), tree)
        for small in trees_within(5):
            for way in heads(small):
                self.assert_its_own(cut(small, way, 3), small)

    def test_one_copy_changed_leaves_the_others(self):
        left = cut([[[[]], []]], [0, 1], 2)
        left[0][0].append([[]])
        left[1].clear()
        self.assertEqual(left, [[[[], [[]]]], [], [[[]]]])

    def test_the_tree_and_the_way_stay_as_they_are(self):
        tree, way = [[], [[[], [[]]], []]], [1, 0, 1, 0]
        inner = [id(found) for found in lists_of(tree)]
        left = cut(tree, way, 3)
        self.assertEqual((tree, way), ([[], [[[], [[]]], []]], [1, 0, 1, 0]))
        self.assertEqual([id(found) for found in lists_of(tree)], inner)
        left[0].clear()
        left.clear()
        self.assertEqual((tree, way), ([[], [[[], [[]]], []]], [1, 0, 1, 0]))

    def test_the_ways_of_heads_can_be_handed_in(self):
        tree = [[[], [[]]], [[]], []]
        for way in heads(tree):
            self.assertEqual(cut(tree, way, 1), by_the_words(tree, way, 1))

    def test_a_list_that_stands_in_several_places_is_cut_at_one(self):
        leaf = []
        pair = [leaf, leaf]
        tree = [pair, pair, leaf]
        self.assertEqual(cut(tree, [0, 1], 0), [[[], []], [[]], []])
        self.assertEqual(cut(tree, [2], 0), [[[], []], [[], []]])
        self.assertEqual(cut([[pair, pair]], [0, 1, 0], 1), [[[[], []], [[]], [[]]]])
        self.assert_its_own(cut(tree, [1, 0], 2), tree)
        self.assertEqual(tree, [[[], []], [[], []], []])


if __name__ == "__main__":
    unittest.main()
