"""Heads, the ways to them, and what is left when one is cut."""

from headsgrow.errors import BadTimes, BadWay, TooGreat
from headsgrow.trees import MOST_KNOTS, refuse_no_tree, told
from headsgrow.whole import is_whole


def heads(tree):
    """The ways to all heads, by the branches as they are handed in, in the order of lists."""
    refuse_no_tree(tree)
    return _ways(tree) if tree else []


def cut(tree, way, times):
    """What is left, told, when the head at the end of the way is cut and so many copies grow."""
    refuse_no_tree(tree)
    if not _leads_to_a_head(tree, way):
        raise BadWay("no list of places that leads to a knot without branches below the root")
    if not is_whole(times, 0):
        raise BadTimes("no whole number from 0 on")
    left = _copied(tree)
    knots = [left]
    for place in way:
        knots.append(knots[-1][place])
    bearer = knots[-2]
    del bearer[way[-1]]
    if len(knots) > 2:
        # The copies are counted before they grow: there may be more than there is room for.
        if _knots(left) + times * _knots(bearer) > MOST_KNOTS:
            raise TooGreat("what is left has more than 300 knots")
        knots[-3].extend([bearer] * times)
    # The copies are one list so far; telling makes a list of its own of each.
    return told(left)


def _ways(knot):
    # A way to a head never goes on, so the ways come in the order of lists by themselves
    # when the branches are gone through in turn.
    if not knot:
        return [[]]
    return [[place] + way for place, branch in enumerate(knot) for way in _ways(branch)]


def _leads_to_a_head(tree, way):
    if not isinstance(way, list) or not way:
        return False
    knot = tree
    for place in way:
        if not is_whole(place, 0) or place >= len(knot):
            return False
        knot = knot[place]
    return not knot


def _copied(tree):
    return [_copied(branch) for branch in tree]


def _knots(tree):
    return 1 + sum([_knots(branch) for branch in tree])
