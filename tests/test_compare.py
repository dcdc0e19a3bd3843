"""Point [2]: which of two trees is worth more."""

import unittest

from headsgrow.trees import compare, told
from tests.helper import deep, trees_within, wide, within, worth

# Each is worth more than all before it.
RISING = (
    [],
    [[]],
    [[], []],
    [[], [], []],
    [[[]]],
    [[], [[]]],
    [[], [[]], []],
    [[[]], [[]]],
    [[[]], [], [[]]],
    [[[], []]],
    [[], [[], []]],
    [[[]], [[], []]],
    [[[], []], [[], []]],
    [[[], [], []]],
    [[[[]]]],
    [[[], []], [[[]]]],
    [[[[]], []]],
    [[[], [], [[]]]],
    [[[[]], [[]]]],
    [[[[], []]]],
    [[[[[]]]]],
)


class Compare(unittest.TestCase):
    def assert_compared(self, one, other, expected):
        for first, second, answer in ((one, other, expected), (other, one, -expected)):
            self.assertEqual(compare(first, second), answer, (first, second))
            self.assertIs(type(compare(first, second)), int)

    def test_the_issues_examples(self):
        self.assert_compared([[[]]], [[], [], []], 1)
        self.assert_compared([], [], 0)
        self.assert_compared([[], [[]]], [[[]], []], 0)

    def test_a_row_of_rising_worth(self):
        for at, one in enumerate(RISING):
            for place, other in enumerate(RISING):
                self.assert_compared(one, other, (at > place) - (at < place))

    def test_if_no_place_decides_more_branches_do(self):
        self.assert_compared([[[]], []], [[[]]], 1)
        self.assert_compared(wide(300), wide(299), 1)

    def test_the_first_place_decides_not_the_count(self):
        self.assert_compared(deep(2), wide(300), 1)
        self.assert_compared(deep(40), wide(300), 1)

    def test_a_difference_within_40_others(self):
        self.assert_compared(deep(40), deep(39), 1)
        self.assert_compared(within(39, [[], []]), deep(40), 1)
        self.assert_compared(within(38, [[], [[]]]), within(38, [[[]], []]), 0)

    def test_the_order_that_is_handed_in_decides_nothing(self):
        self.assert_compared([[[], [[]]], []], [[], [[[]], []]], 0)
        self.assert_compared([[], [[[]]]], [[[[]]]], 1)

    def test_the_same_list_on_both_sides(self):
        for tree in RISING:
            self.assert_compared(tree, tree, 0)

    def test_all_small_trees(self):
        trees = trees_within(6)
        for one in trees:
            for other in trees:
                self.assert_compared(one, other, worth(one, other))
                self.assertEqual(compare(one, other) == 0, told(one) == told(other))

    def test_nothing_handed_in_is_changed(self):
        one, other = [[], [[], [[]]]], [[], [[]]]
        compare(one, other)
        self.assertEqual((one, other), ([[], [[], [[]]]], [[], [[]]]))


if __name__ == "__main__":
    unittest.main()
