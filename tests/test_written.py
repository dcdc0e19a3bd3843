"""Point [6]: numbers written by a base, through and through, and told by it again."""

import unittest

from headsgrow.bases import number_of, written
from headsgrow.errors import BadBase, BadNumber, TooGreat
from headsgrow.trees import compare, told
from tests.helper import NO_WHOLE_NUMBERS, Checks, in_order, lists_of, wide

TOP = 2 ** 400
BASES = (2, 3, 4, 5, 7, 10, 16, 99, 300, 1000, 10 ** 9, 2 ** 64, 2 ** 400, 2 ** 401, 10 ** 3000)
NO_BASES = NO_WHOLE_NUMBERS + (1, 0, -1, -2, -10 ** 30)
NO_NUMBERS = NO_WHOLE_NUMBERS + (-1, -2, -10 ** 200, TOP, TOP + 1, 2 ** 401, 10 ** 3000)


def by_the_words(number, base):
    """Point [6]: for each power so many branches as its figure says, each the exponent."""
    tree, exponent = [], 0
    while base ** exponent <= number:
        figure = number // base ** exponent % base
        tree += [by_the_words(exponent, base) for _ in range(figure)]
        exponent += 1
    return in_order(tree)


class Written(Checks, unittest.TestCase):
    def test_0_and_1(self):
        for base in BASES:
            self.assertEqual(written(0, base), [])
            self.assertEqual(written(1, base), [[]])

    def test_by_two(self):
        trees = [[], [[]], [[[]]], [[[]], []], [[[[]]]], [[[[]]], []], [[[[]]], [[]]]]
        for number, tree in enumerate(trees):
            self.assertEqual(written(number, 2), tree)

    def test_by_ten(self):
        self.assertEqual(written(9, 10), [[]] * 9)
        self.assertEqual(written(10, 10), [[[]]])
        self.assertEqual(written(11, 10), [[[]], []])
        self.assertEqual(written(302, 10), [[[], []]] * 3 + [[]] * 2)

    def test_one_less_than_the_base_the_base_and_one_more(self):
        for base in (2, 3, 4, 5, 7, 10, 16, 99, 299, 300):
            self.assertEqual(written(base - 1, base), [[]] * (base - 1))
            self.assertEqual(written(base, base), [[[]]])
            self.assertEqual(written(base + 1, base), [[[]], []])

    def test_a_base_greater_than_the_number(self):
        for base in (8, 9, 300, 2 ** 400, 10 ** 3000):
            self.assertEqual(written(7, base), [[]] * 7)

    def test_a_great_base(self):
        for base in (2 ** 150, 2 ** 199 + 1, 10 ** 60):
            self.assertEqual(written(base, base), [[[]]])
            self.assertEqual(written(base + 5, base), [[[]]] + [[]] * 5)
            self.assertEqual(written(2 * base * base + 1, base), [[[], []]] * 2 + [[]])

    def test_powers_of_the_base(self):
        for base in (2, 3, 10):
            exponent = 0
            while base ** exponent < TOP:
                self.assertEqual(written(base ** exponent, base), [by_the_words(exponent, base)])
                exponent += 1

    def test_exponents_greater_than_the_base_are_written_themselves(self):
        self.assertEqual(written(2 ** 4, 2), [[[[[]]]]])
        self.assertEqual(written(2 ** 2 ** 2 + 2 + 1, 2), [[[[[]]]], [[]], []])
        self.assertEqual(written(3 ** 5, 3), [[[[]], [], []]])
        self.assertEqual(written(2 ** 266, 2), [[[[[[]], []]], [[[]], []], [[]]]])
        self.assertEqual(written(10 ** 12, 10), [[[[]], [], []]])

    def test_several_figures_alike(self):
        self.assertEqual(written(3 + 3 * 5 + 3 * 25, 5), [[[], []]] * 3 + [[[]]] * 3 + [[]] * 3)
        self.assertEqual(written(2 ** 5 - 1, 2), [written(at, 2) for at in (4, 3, 2, 1, 0)])

    def test_from_the_branch_that_is_worth_most_on(self):
        for number, base in (
            (2 ** 10 - 1, 2), (2 ** 300 + 2 ** 255 + 2 ** 16 + 9, 2), (3 ** 12 + 3 ** 11 + 7, 3),
            (5 ** 30 + 3 * 5 ** 29 + 24, 5), (87654321, 10), (9 * 100 ** 3 + 40, 100),
        ):
            tree = written(number, base)
            self.assertEqual(tree, told(tree))
            self.assertEqual(tree, in_order(tree))

    def test_all_small_numbers(self):
        for base in (2, 3, 4, 5, 10, 64, 301):
            for number in range(260):
                self.assertEqual(written(number, base), by_the_words(number, base))

    def test_numbers_of_two_hundred_bits_and_more(self):
        for number in (2 ** 200 + 2 ** 77 + 5, 2 ** 250 + 1, 2 ** 399, 2 ** 399 + 2 ** 398 + 1):
            self.assertEqual(written(number, 2), by_the_words(number, 2))
        self.assertEqual(written(3 ** 252, 3), by_the_words(3 ** 252, 3))
        self.assertEqual(written(10 ** 120 + 10 ** 61, 10), by_the_words(10 ** 120 + 10 ** 61, 10))

    def test_a_greater_numbers_tree_is_worth_more(self):
        for base in (2, 3, 7):
            for number in range(200):
                self.assertEqual(compare(written(number + 1, base), written(number, base)), 1)

    def test_each_list_is_the_askers_own(self):
        for number, base in ((299, 300), (302, 10), (2 ** 31 - 1, 2), (3 ** 20 - 1, 3), (0, 2)):
            self.assert_its_own(written(number, base))
        answer = written(7, 2)
        answer[0].append([])
        answer.pop()
        self.assertEqual(written(7, 2), [[[[]]], [[]], []])


class NumbersAgain(Checks, unittest.TestCase):
    def assert_told_again(self, number, base):
        answer = number_of(written(number, base), base)
        self.assertEqual(answer, number)
        self.assertIs(type(answer), int)

    def test_small_numbers(self):
        for base in BASES:
            for number in list(range(130)) + [200, 250, 299]:
                self.assert_told_again(number, base)

    def test_numbers_around_powers_of_the_base(self):
        for base in (2, 3, 10, 2 ** 64, 2 ** 150 + 1, 10 ** 100):
            power = base
            while power + 2 * base + 2 < TOP:
                for number in (power, power + 1, power + base, 2 * power, 2 * power + 1):
                    if number < TOP:
                        self.assert_told_again(number, base)
                power *= base

    def test_numbers_of_two_hundred_bits_and_more(self):
        for number in (2 ** 200, 2 ** 201 + 2 ** 11, 2 ** 320 + 2 ** 256 + 2 ** 16, 2 ** 399 + 1):
            self.assert_told_again(number, 2)
        self.assert_told_again(2 * 3 ** 200 + 3 ** 27 + 2, 3)
        self.assert_told_again(7 * 10 ** 99 + 10 ** 10, 10)
        self.assert_told_again(TOP - 2, TOP - 3)

    def test_the_greatest_number(self):
        self.assertEqual(written(TOP - 1, TOP - 1), [[[]]])
        self.assertEqual(written(TOP - 1, 2 ** 200 - 1), [[[], []], [[]], [[]]])
        self.assertEqual(written(TOP - 1, TOP - 20), [[[]]] + [[]] * 19)
        for base in (TOP - 1, TOP - 2, 2 ** 200 - 1, TOP - 20):
            self.assert_told_again(TOP - 1, base)
        self.assert_refused(TooGreat, written, TOP - 1, TOP // 2)
        self.assert_refused(BadNumber, written, TOP, TOP - 1)


class Refused(Checks, unittest.TestCase):
    def test_no_number(self):
        for number in NO_NUMBERS:
            for base in (2, 10, 10 ** 3000):
                self.assert_refused(BadNumber, written, number, base)

    def test_no_base(self):
        for base in NO_BASES:
            for number in (0, 1, 7, TOP - 1):
                self.assert_refused(BadBase, written, number, base)

    def test_the_number_goes_first(self):
        for number in NO_NUMBERS:
            for base in (0, 1, None, True):
                self.assert_refused(BadNumber, written, number, base)

    def test_the_base_goes_before_what_is_too_great(self):
        for base in NO_BASES:
            self.assert_refused(BadBase, written, TOP - 1, base)

    def test_just_300_knots_and_one_more(self):
        for base in (300, 301, 2 ** 64, 10 ** 3000):
            self.assertEqual(written(299, base), wide(300))
        for base in (301, 302, 2 ** 64, 10 ** 3000):
            self.assert_refused(TooGreat, written, 300, base)
        # 298 and the base: two knots for the base, 297 more, and the root.
        self.assertEqual(written(1000 + 297, 1000), [[[]]] + [[]] * 297)
        self.assert_refused(TooGreat, written, 1000 + 298, 1000)
        self.assertEqual(len(lists_of(written(2 * 1000 * 1000 + 293, 1000))), 300)
        self.assert_refused(TooGreat, written, 2 * 1000 * 1000 + 294, 1000)

    def test_the_first_numbers_by_two_that_are_too_great(self):
        for figures in range(1, 60):
            number = 2 ** figures - 1
            if len(lists_of(by_the_words(number, 2))) > 300:
                self.assert_refused(TooGreat, written, number, 2)
            else:
                self.assertEqual(written(number, 2), by_the_words(number, 2))

    def test_far_too_great(self):
        self.assert_refused(TooGreat, written, TOP - 1, 2)
        self.assert_refused(TooGreat, written, TOP - 1, 3)
        self.assert_refused(TooGreat, written, TOP - 1, 2 ** 200)
        self.assert_refused(TooGreat, written, TOP - 1, TOP)
        self.assert_refused(TooGreat, written, 10 ** 100, 10 ** 3000)


if __name__ == "__main__":
    unittest.main()
