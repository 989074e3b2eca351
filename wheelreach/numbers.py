"""Integers: divisors, multiples and remainders."""

from math import gcd
from wheelreach.errors import BadNumber


def is_whole(value):
    """Whether any value is an integer: an int that is not a bool."""
    return isinstance(value, int) and not isinstance(value, bool)


def is_from(value, low):
    """Whether any value is an integer from low on."""
    return is_whole(value) and value >= low


def is_between(value, low, high):
    """Whether any value is an integer from low to high."""
    return is_whole(value) and low <= value <= high


def common(*numbers):
    """The greatest integer that divides all numbers; 0 if there are none or all are 0."""
    for number in numbers:
        if not is_whole(number):
            raise BadNumber(number)
    found = 0
    for number in numbers:
        found = gcd(found, number)
    return found


def multiple(*numbers):
    """The least integer from 1 on that all numbers divide."""
    for number in numbers:
        if not is_from(number, 1):
            raise BadNumber(number)
    found = 1
    for number in numbers:
        found = found // gcd(found, number) * number
    return found


def apart(d, period):
    """How far d is from the nearest multiple of the period."""
    if not is_whole(d):
        raise BadNumber(d)
    if not is_from(period, 1):
        raise BadNumber(period)
    left = d % period
    return min(left, period - left)


def is_part(value):
    """Whether any value is a remainder and a divisor."""
    return isinstance(value, tuple) and len(value) == 2 and is_whole(value[0]) and is_from(value[1], 1)


def together(*parts):
    """The least integer from 0 on that leaves each remainder by its divisor; None if there is none."""
    for part in parts:
        if not is_part(part):
            raise BadNumber(part)
    found, step = 0, 1
    for remainder, divisor in parts:
        shared = gcd(step, divisor)
        away = remainder - found
        if away % shared != 0:
            return None
        rest = divisor // shared
        turns = away // shared * inverse(step // shared, rest) % rest
        found = found + step * turns
        step = step * rest
    return found


def inverse(number, divisor):
    """The integer from 0 to divisor - 1 whose product with number leaves 1; both have no common divisor."""
    left, right = divisor, number % divisor
    found, following = 0, 1
    while right != 0:
        turns = left // right
        left, right = right, left - turns * right
        found, following = following, found - turns * following
    return found % divisor
