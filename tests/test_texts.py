"""headsgrow/texts.py: a tree as a text of brackets, and read again."""

import copy
import itertools
import unittest

from headsgrow.errors import BadText, BadTree
from headsgrow.texts import read, text
from headsgrow.trees import told
from tests.helper import NO_LISTS, Checks, deep, in_order, lists_of, trees_within, wide, within

NO_TEXTS = tuple(bad for bad in NO_LISTS if bad != "[]" and bad != "") + ([], [[]], ["()"], ("()",),
                                                                         b"()", {"()": 1}, object())


def by_the_words(tree):
    """Each branch's text between brackets, nothing between them; the tree is told already."""
    return "".join("(" + by_the_words(branch) + ")" for branch in tree)


def as_python(signs):
    """The tree as Python itself reads lists, with a comma behind each one that is closed."""
    return eval("[" + signs.replace("(", "[").replace(")", "],") + "]")


class Text(Checks, unittest.TestCase):
    def test_the_list_of_none(self):
        self.assertEqual(text([]), "")

    def test_small_trees(self):
        self.assertEqual(text([[]]), "()")
        self.assertEqual(text([[], []]), "()()")
        self.assertEqual(text([[[]]]), "(())")
        self.assertEqual(text([[[]], []]), "(())()")

    def test_as_told(self):
        self.assertEqual(text([[], [[]]]), "(())()")
        self.assertEqual(text([[], [[], [[]]]]), "((())())()")

    def test_all_small_trees(self):
        for tree in trees_within(7):
            self.assertEqual(text(tree), by_the_words(in_order(tree)))

    def test_at_the_limits(self):
        self.assertEqual(text(wide(300)), "()" * 299)
        self.assertEqual(text(deep(40)), "(" * 40 + ")" * 40)
        self.assertEqual(text(wide(260) + [deep(39)]), "(" * 40 + ")" * 40 + "()" * 259)

    def test_it_is_a_plain_text(self):
        self.assertIs(type(text([])), str)
        self.assertIs(type(text([[], [[]]])), str)

    def test_no_tree(self):
        for bad in NO_LISTS + (wide(301), deep(41), [[], None], [()], "()", "(", object()):
            self.assert_refused(BadTree, text, bad)

    def test_the_tree_stays_as_it_is(self):
        tree = [[], [[], [[]]]]
        before = copy.deepcopy(tree)
        text(tree)
        self.assertEqual(tree, before)


class Read(Checks, unittest.TestCase):
    def test_the_text_of_none(self):
        self.assertEqual(read(""), [])

    def test_small_texts(self):
        self.assertEqual(read("()"), [[]])
        self.assertEqual(read("()()"), [[], []])
        self.assertEqual(read("(())"), [[[]]])

    def test_as_it_stands_there_not_in_order(self):
        self.assertEqual(read("()(())"), [[], [[]]])
        self.assertEqual(read("(())()"), [[[]], []])
        self.assertEqual(read("(()(()))()(()())"), [[[], [[]]], [], [[], []]])

    def test_what_was_told_is_read_again(self):
        for tree in trees_within(7):
            self.assertEqual(read(text(tree)), told(tree))
            self.assertEqual(read(by_the_words(tree)), tree)
            self.assertEqual(text(read(by_the_words(tree))), text(tree))

    def test_300_knots_are_read(self):
        self.assertEqual(read("()" * 299), wide(300))
        self.assertEqual(read("(" + "()" * 298 + ")"), [wide(299)])
        self.assertEqual(read("()" * 259 + "(" * 40 + ")" * 40), wide(260) + deep(40))

    def test_a_knot_within_40_others_is_read(self):
        self.assertEqual(read("(" * 40 + ")" * 40), deep(40))
        self.assertEqual(read("()" + "(" * 39 + "()" + ")" * 39), [[], deep(39)])
        self.assertEqual(read("(" * 39 + "()()" + ")" * 39), within(39, [[], []]))

    def test_each_list_is_the_askers_own(self):
        for signs in ("", "()()", "(()(()))(()(()))()"):
            self.assert_its_own(read(signs))
        tree = read("()()")
        tree[0].append([])
        self.assertEqual(tree, [[[]], []])
        self.assertEqual(read("()()"), [[], []])


class BadTexts(Checks, unittest.TestCase):
    def test_what_is_no_text_at_all(self):
        for bad in NO_TEXTS:
            with self.subTest(bad=bad):
                self.assert_refused(BadText, read, bad)

    def test_all_short_texts_of_brackets(self):
        for many in range(11):
            for signs in map("".join, itertools.product("()", repeat=many)):
                open_ones = list(itertools.accumulate(1 if sign == "(" else -1 for sign in signs))
                if many == 0 or (min(open_ones) == 0 and open_ones[-1] == 0):
                    self.assertEqual(read(signs), as_python(signs))
                    self.assertEqual(len(lists_of(read(signs))), many // 2 + 1)
                else:
                    self.assert_refused(BadText, read, signs)

    def test_a_bracket_too_many_or_too_few(self):
        for bad in ("(", ")", "(()", "())", "()(", "())(", ")(", "))((", "())(()", "()" * 9 + ")"):
            self.assert_refused(BadText, read, bad)

    def test_any_other_sign(self):
        for sign in " \t\n,.-[]{}<>0x_'\"\\\0" + "\u00a0\uff08\uff09\u2768\ud800":
            for bad in (sign, sign + "()", "()" + sign, "(" + sign + ")", "()" + sign + "()"):
                self.assert_refused(BadText, read, bad)
        self.assert_refused(BadText, read, "[]")
        self.assert_refused(BadText, read, "[[]]")

    def test_301_knots(self):
        self.assert_refused(BadText, read, "()" * 300)
        self.assert_refused(BadText, read, "(" + "()" * 299 + ")")
        self.assert_refused(BadText, read, "()" * 260 + "(" * 40 + ")" * 40)

    def test_a_knot_within_41_others(self):
        self.assert_refused(BadText, read, "(" * 41 + ")" * 41)
        self.assert_refused(BadText, read, "()" + "(" * 41 + ")" * 41)
        self.assert_refused(BadText, read, "(" * 40 + "()()" + ")" * 40)

    def test_far_beyond_the_limits(self):
        self.assert_refused(BadText, read, "()" * 100000)
        self.assert_refused(BadText, read, "(" * 100000 + ")" * 100000)
        self.assert_refused(BadText, read, "(" * 100000)


if __name__ == "__main__":
    unittest.main()
