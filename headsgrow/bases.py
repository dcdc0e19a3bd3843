"""Numbers written through and through by a base, told by one, and stepped to the next one."""

from headsgrow.errors import BadBase, BadNumber, TooGreat
from headsgrow.trees import MOST_KNOTS, told
from headsgrow.whole import is_whole

LEAST_BASE = 2
# 2 multiplied 400 times: the least number that is neither written nor told.
BEYOND = 1 << 400


def written(number, base):
    """The number as a tree: for each power of the base so many branches as the figure says."""
    if not is_whole(number, 0) or number >= BEYOND:
        raise BadNumber("no whole number from 0 to one less than 2 multiplied 400 times")
    if not is_whole(base, LEAST_BASE):
        raise BadBase("no whole number from 2 on")
    # The knots are counted before a tree is made: a figure may be as great as the number.
    if _knots(number, base) > MOST_KNOTS:
        raise TooGreat("the tree has more than 300 knots")
    return _tree(number, base)


def number_of(tree, base):
    """The number that the tree tells by the base."""
    in_order = told(tree)
    if not is_whole(base, LEAST_BASE):
        raise BadBase("no whole number from 2 on")
    if not _can_write(in_order, base):
        raise BadBase("a knot has as many alike branches as the base says, or more")
    number = _number(in_order, base)
    if number == BEYOND:
        raise TooGreat("the number is not below 2 multiplied 400 times")
    return number


def stepped(number, base):
    """The number written by the base, told by the base that is one more, and one taken off."""
    tree = written(number, base)
    return max(number_of(tree, base + 1) - 1, 0)


def _figures(number, base):
    """The number's figures by the base, from the power 0 on; 0 has none."""
    figures = []
    rest = number
    while rest > 0:
        rest, figure = divmod(rest, base)
        figures.append(figure)
    return figures


def _knots(number, base):
    figures = _figures(number, base)
    return 1 + sum([figure * _knots(power, base) for power, figure in enumerate(figures) if figure > 0])


def _tree(number, base):
    # Of two numbers written by one base the greater one's tree is worth more, so the
    # branches of the greatest power come first.
    tree = []
    for power, figure in reversed(list(enumerate(_figures(number, base)))):
        tree.extend([_tree(power, base) for _ in range(figure)])
    return tree


def _can_write(in_order, base):
    """Whether no knot has as many alike branches as the base says; the tree is told already."""
    if any([in_order.count(branch) >= base for branch in in_order]):
        return False
    return all([_can_write(branch, base) for branch in in_order])


def _number(tree, base):
    """The number that the tree tells by the base, or BEYOND for all numbers from that on."""
    number = 0
    for branch in tree:
        number = min(number + _power(base, _number(branch, base)), BEYOND)
    return number


def _power(base, exponent):
    # It ends after 400 rounds at the latest, however great the exponent is: no base is
    # less than 2.
    power = 1
    for _ in range(exponent):
        power = power * base
        if power >= BEYOND:
            return BEYOND
    return power
