"""Point [7]: numbers stepped from a base to the one that is one more."""

import unittest

from headsgrow.bases import number_of, stepped, written
from headsgrow.errors import BadBase, BadNumber, HeadError, TooGreat
from headsgrow.trees import compare
from tests.helper import NO_WHOLE_NUMBERS, Checks

TOP = 2 ** 400
NO_BASES = NO_WHOLE_NUMBERS + (1, 0, -1, -2, -10 ** 30)
NO_NUMBERS = NO_WHOLE_NUMBERS + (-1, -2, -10 ** 200, TOP, TOP + 1, 2 ** 401, 10 ** 3000)


def run(number, base, steps):
    """The number and what it is stepped to, again and again."""
    numbers = [number]
    for at in range(steps):
        numbers.append(stepped(numbers[-1], base + at))
    return numbers


class Stepped(Checks, unittest.TestCase):
    def test_0_stays_0(self):
        for base in (2, 3, 10, TOP, 10 ** 3000):
            self.assertEqual(stepped(0, base), 0)
            self.assertIs(type(stepped(0, base)), int)

    def test_1_comes_to_0(self):
        for base in (2, 3, 10, TOP, 10 ** 3000):
            self.assertEqual(stepped(1, base), 0)

    def test_below_the_base_one_is_taken_off(self):
        for base in (2, 3, 10, 250):
            for number in range(1, base):
                self.assertEqual(stepped(number, base), number - 1)

    def test_the_base_itself_stays(self):
        for base in (2, 3, 10, 10 ** 60):
            self.assertEqual(stepped(base, base), base)

    def test_small_numbers_come_to_0(self):
        self.assertEqual(run(1, 2, 2), [1, 0, 0])
        self.assertEqual(run(2, 2, 4), [2, 2, 1, 0, 0])
        self.assertEqual(run(3, 2, 6), [3, 3, 3, 2, 1, 0, 0])
        self.assertEqual(run(5, 4, 8), [5, 5, 5, 4, 3, 2, 1, 0, 0])

    def test_numbers_below_twice_the_base_come_to_0(self):
        for base in (3, 4, 5, 7, 10):
            for number in range(2 * base):
                numbers = run(number, base, 60)
                self.assertEqual(numbers[-1], 0)
                self.assertEqual(numbers[numbers.index(0):], [0] * (61 - numbers.index(0)))

    def test_numbers_that_grow_far_before_they_fall(self):
        self.assertEqual(run(4, 2, 9), [4, 26, 41, 60, 83, 109, 139, 173, 211, 253])
        self.assertEqual(run(5, 2, 2), [5, 27, 255])
        self.assertEqual(run(19, 2, 1), [19, 7625597484990])
        self.assertEqual(stepped(2 ** 3 + 2, 2), 3 ** 4 + 3 - 1)
        self.assertEqual(stepped(266, 2), 3 ** 81 + 3 ** 4 + 3 - 1)

    def test_exponents_grow_with_the_base_too(self):
        self.assertEqual(stepped(4, 2), 3 ** 3 - 1)
        self.assertEqual(stepped(16, 2), 3 ** 27 - 1)
        self.assertEqual(stepped(10 ** 11 + 2, 10), 11 ** 12 + 1)

    def test_the_tree_is_worth_less_each_time(self):
        for number in range(1, 16):
            base = 2
            while number and base < 30:
                tree = written(number, base)
                try:
                    number = stepped(number, base)
                    base += 1
                    after = written(number, base)
                except TooGreat:
                    break
                self.assertEqual(compare(after, tree), -1)

    def test_as_the_words_say(self):
        for base in (2, 3, 5, 17):
            for number in range(1, 150):
                try:
                    by_the_next = number_of(written(number, base), base + 1)
                except HeadError:
                    self.assert_refused(TooGreat, stepped, number, base)
                else:
                    self.assertEqual(stepped(number, base), by_the_next - 1)
                    self.assertIs(type(stepped(number, base)), int)


class Refused(Checks, unittest.TestCase):
    def test_no_number(self):
        for number in NO_NUMBERS:
            for base in (2, 10, 0, None, True):
                self.assert_refused(BadNumber, stepped, number, base)

    def test_no_base(self):
        for base in NO_BASES:
            for number in (0, 1, 7, TOP - 1):
                self.assert_refused(BadBase, stepped, number, base)

    def test_no_tree_of_300_knots(self):
        self.assertEqual(stepped(299, 300), 298)
        self.assertEqual(stepped(299, 10 ** 3000), 298)
        self.assert_refused(TooGreat, stepped, 300, 301)
        self.assert_refused(TooGreat, stepped, 300, 10 ** 3000)
        self.assert_refused(TooGreat, stepped, TOP - 1, 2)
        self.assert_refused(TooGreat, stepped, TOP - 1, 2 ** 200)

    def test_the_greater_bases_number_is_just_2_multiplied_400_times(self):
        # One taken off would be such a number again; but the tree tells none.
        self.assert_refused(TooGreat, stepped, TOP - 1, TOP - 1)
        self.assert_refused(TooGreat, stepped, (2 ** 200 - 1) ** 2, 2 ** 200 - 1)

    def test_the_greater_bases_number_is_one_less(self):
        self.assertEqual(stepped(TOP - 2, TOP - 2), TOP - 2)
        self.assertEqual(stepped((2 ** 200 - 2) ** 2, 2 ** 200 - 2), (2 ** 200 - 1) ** 2 - 1)

    def test_far_too_great_by_the_greater_base(self):
        for number in (2 ** 256, 2 ** 399, 2 ** 64, 2 ** 300 + 2 ** 299):
            self.assert_refused(TooGreat, stepped, number, 2)
        self.assert_refused(TooGreat, stepped, 7625597484990, 3)
        self.assert_refused(TooGreat, stepped, 10 ** 120, 10)


if __name__ == "__main__":
    unittest.main()
