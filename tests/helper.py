"""Trees to ask with, and what several files of tests look at alike."""

from functools import cmp_to_key

NO_LISTS = (None, (), ([],), "", "[]", b"", 0, 1, 41, -3, 1.5, True, False, {}, {"a": []}, {0: 0})
NO_WHOLE_NUMBERS = (None, True, False, "", "0", "2", b"2", 0.0, 2.0, 2.5, 1e300, float("nan"), 2j,
                    [], [2], (), (2,), {}, {2: 2}, {2}, range(2), object())


def within(others, knot):
    """The knot, or what is handed in as one, within just so many others."""
    for _ in range(others):
        knot = [knot]
    return knot


def deep(others):
    """A knot without branches within just so many others."""
    return within(others, [])


def wide(knots):
    """A tree of so many knots, all but the root borne by it."""
    return [[] for _ in range(knots - 1)]


def forests(knots):
    """All lists of trees that have so many knots together, in every order of branches."""
    if knots == 0:
        return [[]]
    return [
        [first] + rest
        for size in range(1, knots + 1)
        for first in forests(size - 1)
        for rest in forests(knots - size)
    ]


def trees_within(knots):
    """All trees of no more knots than these, in every order of branches."""
    return [tree for size in range(1, knots + 1) for tree in forests(size - 1)]


def worth(one, other):
    """Point [2] word by word, with no help from Python's own order of lists."""
    for first, second in zip(from_the_most_on(one), from_the_most_on(other)):
        if worth(first, second) != 0:
            return worth(first, second)
    if len(one) == len(other):
        return 0
    return 1 if len(one) > len(other) else -1


def from_the_most_on(branches):
    """The branches from the one that is worth most on, not looked at within."""
    return sorted(branches, key=cmp_to_key(worth), reverse=True)


def in_order(tree):
    """The tree from the branch that is worth most on, within likewise."""
    return [in_order(branch) for branch in from_the_most_on(tree)]


def lists_of(tree):
    """The tree's lists, one for each place at which a list stands."""
    return [tree] + [found for branch in tree for found in lists_of(branch)]


class Checks:
    """What is looked at alike for each answer and each refusal; stands beside a TestCase."""

    def assert_refused(self, refusal, asked, *handed):
        """The refusal comes, and it is of that class alone."""
        with self.assertRaises(refusal) as caught:
            asked(*handed)
        self.assertIs(type(caught.exception), refusal)

    def assert_its_own(self, answer, *handed):
        """No list stands in the answer twice, and none was handed in."""
        places = [id(found) for found in lists_of(answer)]
        self.assertEqual(len(places), len(set(places)))
        for tree in handed:
            self.assertTrue(set(places).isdisjoint(id(found) for found in lists_of(tree)))
        for found in lists_of(answer):
            self.assertIs(type(found), list)
