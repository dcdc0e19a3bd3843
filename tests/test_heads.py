"""Point [4]: the heads of a tree and the ways to them."""

import copy
import unittest

from headsgrow.cutting import heads
from tests.helper import Checks, deep, trees_within, wide, within


def knot_at(tree, way):
    """What stands at the end of the way, or None if no knot does."""
    for place in way:
        if place >= len(tree):
            return None
        tree = tree[place]
    return tree


def ways_of_all_knots(tree):
    """The way to each knot of the tree, the root's too, level by level."""
    ways = [[]]
    for way in ways:
        ways.extend(way + [place] for place in range(len(knot_at(tree, way))))
    return ways


class Heads(Checks, unittest.TestCase):
    def test_a_tree_of_one_knot_has_none(self):
        self.assertEqual(heads([]), [])

    def test_heads_on_the_root(self):
        self.assertEqual(heads([[]]), [[0]])
        self.assertEqual(heads([[], [], []]), [[0], [1], [2]])

    def test_heads_further_up(self):
        self.assertEqual(heads([[[]]]), [[0, 0]])
        self.assertEqual(heads([[[], [[]]], []]), [[0, 0], [0, 1, 0], [1]])

    def test_in_the_order_of_lists_not_of_lengths(self):
        self.assertEqual(
            heads([[[[]], []], [], [[], []]]), [[0, 0, 0], [0, 1], [1], [2, 0], [2, 1]]
        )

    def test_more_than_ten_branches_are_in_the_order_of_numbers(self):
        self.assertEqual(heads(wide(13)), [[place] for place in range(12)])

    def test_by_the_branches_as_handed_in_not_as_told(self):
        self.assertEqual(heads([[], [[]]]), [[0], [1, 0]])
        self.assertEqual(heads([[[]], []]), [[0, 0], [1]])
        self.assertEqual(heads([[], [[], [[]]]]), [[0], [1, 0], [1, 1, 0]])

    def test_all_small_trees(self):
        for tree in trees_within(7):
            ways = [way for way in ways_of_all_knots(tree) if way and knot_at(tree, way) == []]
            self.assertEqual(heads(tree), sorted(ways))

    def test_deep_and_wide_trees(self):
        self.assertEqual(heads(deep(40)), [[0] * 40])
        self.assertEqual(heads(within(39, [[], []])[0]), [[0] * 38 + [0], [0] * 38 + [1]])
        self.assertEqual(heads(wide(300)), [[place] for place in range(299)])
        self.assertEqual(heads([wide(299)]), [[0, place] for place in range(298)])
        self.assertEqual(
            heads(wide(260) + [deep(39)]), [[place] for place in range(259)] + [[259] + [0] * 39]
        )

    def test_a_list_that_stands_in_several_places(self):
        leaf = []
        pair = [leaf, leaf]
        self.assertEqual(heads([pair, leaf, pair]), [[0, 0], [0, 1], [1], [2, 0], [2, 1]])

    def test_they_are_lists_of_plain_whole_numbers(self):
        for way in heads([[[], [[]]], [], [[]]]):
            self.assertIs(type(way), list)
            for place in way:
                self.assertIs(type(place), int)

    def test_each_list_is_the_askers_own(self):
        tree = [[[], [[]]], []]
        ways = heads(tree)
        self.assertEqual(len({id(way) for way in ways}), len(ways))
        for way in ways:
            way.append(9)
        ways.clear()
        self.assertEqual(heads(tree), [[0, 0], [0, 1, 0], [1]])
        none = heads([])
        none.append([0])
        self.assertEqual(heads([]), [])

    def test_what_is_told_is_no_list_that_was_handed_in(self):
        leaf = []
        self.assertIsNot(heads(leaf), leaf)
        heads(leaf).append([0])
        self.assertEqual(leaf, [])

    def test_the_tree_stays_as_it_is(self):
        tree = [[], [[], [[]]], [[]]]
        before = copy.deepcopy(tree)
        heads(tree)
        self.assertEqual(tree, before)


if __name__ == "__main__":
    unittest.main()
