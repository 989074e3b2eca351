"""The sum: how many members two rounds share, without putting remainders together."""

from wheelreach.numbers import common


def changes_of(turn, runs):
    """How many members leave the remainder 0 by turn, and where it becomes one more or one less.

    A run as long as some turns goes to each remainder as often; only what is left of it makes changes.
    """
    level = 0
    changes = []
    for begin, end in runs:
        turns, left = divmod(end - begin + 1, turn)
        place = begin % turn
        stop = place + left
        level = level + turns
        changes.append((place, 1))
        if stop <= turn:
            changes.append((stop, -1))
        else:
            level = level + 1
            changes.append((stop - turn, -1))
    return (level, changes)


def shared_by(one, other):
    """How many members both rounds have from 0 on, below the least common multiple of their periods.

    These are as many as the pairs of a member of each that leave the same remainder by the greatest common
    divisor; so it is the sum, over all such remainders, of the products of how many leave it in each.
    """
    turn = common(one[0], other[0])
    first, ups = changes_of(turn, one[1])
    second, downs = changes_of(turn, other[1])
    rows = sorted([(place, change, 0) for place, change in ups] + [(place, 0, change) for place, change in downs])
    total, reached = 0, 0
    for place, by_first, by_second in rows:
        total = total + (place - reached) * first * second
        first, second, reached = first + by_first, second + by_second, place
    return total + (turn - reached) * first * second
