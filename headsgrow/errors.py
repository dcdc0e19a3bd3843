"""The refusals, one class for each kind."""


class HeadError(ValueError):
    """Any refusal of this program."""


class BadTree(HeadError):
    """What is handed in is no tree to be asked with."""


class BadWay(HeadError):
    """What is handed in is no way to a head of the tree."""


class BadTimes(HeadError):
    """What is handed in is no count of copies, a whole number from 0 on."""


class BadNumber(HeadError):
    """What is handed in is no number that can be written."""


class BadBase(HeadError):
    """What is handed in is no base, or it can't write the tree."""


class BadText(HeadError):
    """What is handed in is no text of a tree."""


class TooGreat(HeadError):
    """What would have to be told is beyond the limits."""
