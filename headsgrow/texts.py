"""Trees as texts of brackets."""

from headsgrow.errors import BadText
from headsgrow.trees import is_tree, told


def text(tree):
    """For each branch of the tree, told, its text in brackets."""
    return _text(told(tree))


def read(text):
    """The tree as it stands in the text, its branches not put in order."""
    if not isinstance(text, str):
        raise BadText("no text")
    tree = []
    # The knots that are open at this place of the text, from the root on.
    around = [tree]
    for sign in text:
        if sign == "(":
            knot = []
            around[-1].append(knot)
            around.append(knot)
        elif sign == ")" and len(around) > 1:
            around.pop()
        else:
            raise BadText("a sign that is no bracket, or a bracket closed that was not opened")
    if len(around) > 1:
        raise BadText("a bracket is not closed")
    if not is_tree(tree):
        raise BadText("more than 300 knots, or one within more than 40 others")
    return tree


def _text(tree):
    return "".join(["(" + _text(branch) + ")" for branch in tree])
