"""The bounds of the numbers that are asked for, and the errors for those beyond them."""

from wheelreach.errors import BadNumber
from wheelreach.numbers import is_between, is_from, is_whole

FARTHEST = 10 ** 50 * 10 ** 50
MOST_SPREAD = 10 ** 49 * 10 ** 50


def need_whole(value):
    """Raises BadNumber for any value that is no integer."""
    if not is_whole(value):
        raise BadNumber(value)


def need_from(value, low):
    """Raises BadNumber for any value that is no integer from low on."""
    if not is_from(value, low):
        raise BadNumber(value)


def need_between(value, low, high):
    """Raises BadNumber for any value that is no integer from low to high."""
    if not is_between(value, low, high):
        raise BadNumber(value)


def need_reach(reach):
    """Raises BadNumber for any value that can be no reach."""
    need_between(reach, 1, FARTHEST)


def need_window(window):
    """Raises BadNumber for any value that can be no window."""
    need_between(window, 0, FARTHEST)
