"""Trees, lists of their branches, and what they are worth."""

from headsgrow.errors import BadTree, TooGreat

MOST_KNOTS = 300
MOST_ABOVE = 40


def told(tree):
    """The tree with its branches from the one that is worth most on, within them likewise."""
    refuse_no_tree(tree)
    return _in_order(tree)


def compare(one, other):
    """1 if the first tree is worth more, 0 if they are worth as much, -1 if it is worth less."""
    first, second = told(one), told(other)
    if first == second:
        return 0
    return 1 if first > second else -1


def together(one, other):
    """All branches of both trees, told."""
    return _answer(sorted(told(one) + told(other), reverse=True))


def behind(one, other):
    """The branches of the first tree worth no less than all of the second's, then the second's."""
    first, second = told(one), told(other)
    kept = [branch for branch in first if not second or branch >= second[0]]
    return _answer(kept + second)


def refuse_no_tree(thing):
    """Raises BadTree if the thing is no tree to be asked with."""
    if not is_tree(thing):
        raise BadTree("no list of trees within 300 knots, none of them within more than 40 others")


def is_tree(thing):
    """Whether the thing is a tree to be asked with: lists all through, within the limits."""
    # It is gone through level by level and no further than the limits reach: a list may
    # stand in itself, or so often in one tree that counting all its knots would never end.
    knots = 1
    level = [thing]
    for _ in range(MOST_ABOVE + 1):
        if not all(isinstance(knot, list) for knot in level):
            return False
        knots += sum(len(knot) for knot in level)
        if knots > MOST_KNOTS:
            return False
        level = [branch for knot in level for branch in knot]
    return not level


def _in_order(tree):
    # Python's own order of lists (the first difference decides, then the length) is the
    # order of worth, once the branches of both stand from the one that is worth most on.
    return sorted([_in_order(branch) for branch in tree], reverse=True)


def _answer(tree):
    # Branches of two trees, side by side, stand no deeper than they did: only their
    # count can be beyond the limits.
    if not is_tree(tree):
        raise TooGreat("the answer has more than 300 knots")
    return tree
