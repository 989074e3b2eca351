"""The bounds of the numbers that are asked for, and the errors for those beyond them."""

from wheelreach.errors import BadNumber
from wheelreach.numbers import is_between

FARTHEST = 10 ** 50 * 10 ** 50


def need_between(value, low, high):
    """Raises BadNumber for any value that is no integer from low to high."""
    if not is_between(value, low, high):
        raise BadNumber(value)


def need_reach(reach):
    """Raises BadNumber for any value that can be no reach."""
    need_between(reach, 1, FARTHEST)


def need_window(window):
    """Raises BadNumber for any value that can be no window."""
    need_between(window, 0, FARTHEST)
