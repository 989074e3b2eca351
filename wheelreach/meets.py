"""Where the runs of two rounds meet."""

from wheelreach.errors import TooMany
from wheelreach.numbers import common, inverse, multiple
from wheelreach.rounds import MOST_RUNS, begun, is_full


def started(starts, turn, low, high, most):
    """At most so many pairs (place, index) of starts from low to high, on a line where they come again each turn."""
    found = []
    place = low % turn
    base = low - place
    at = begun(starts, place - 1)
    while starts and len(found) < most:
        if at == len(starts):
            at, base = 0, base + turn
        if base + starts[at][0] > high:
            break
        found.append((base + starts[at][0], starts[at][1]))
        at = at + 1
    return found


def crossings(one, other, most):
    """At most so many triples (at, by, shift) of runs that meet if the second one begins shift behind the first one.

    Two runs meet if one of them begins within the other, by the greatest common divisor of the periods.
    Each meeting of runs that are maximal is a maximal run of what lies in both.
    """
    turn = common(one[0], other[0])
    mine = sorted([(begin % turn, at) for at, (begin, end) in enumerate(one[1])])
    theirs = sorted([(begin % turn, by) for by, (begin, end) in enumerate(other[1])])
    found = []
    for place, at in mine:
        begin, end = one[1][at]
        for start, by in started(theirs, turn, place, place + end - begin, most - len(found)):
            found.append((at, by, start - place))
    for place, by in theirs:
        begin, end = other[1][by]
        for start, at in started(mine, turn, place + 1, place + end - begin, most - len(found)):
            found.append((at, by, place - start))
    return found


def placed(one, other, found):
    """The runs of what lies in both rounds at these crossings; they begin from 0 on, below the common period."""
    shared = common(one[0], other[0])
    rest = other[0] // shared
    period = one[0] * rest
    step = inverse(one[0] // shared, rest)
    rows = []
    for at, by, shift in found:
        begin, end = one[1][at]
        start, stop = other[1][by]
        # the turn of the first period in which the other run begins just so far behind this one
        turns = (start - shift - begin) // shared * step % rest
        place = begin + one[0] * turns
        low = (place + max(0, shift)) % period
        rows.append((low, low + min(end - begin, shift + stop - start) - max(0, shift)))
    return rows


def meet(one, other, most=MOST_RUNS):
    """The round of what lies in both rounds; its period is the least common multiple of theirs.

    A round of all integers must have the period 1 here. Raises TooMany for more than most runs.
    """
    if is_full(one):
        return other
    if is_full(other):
        return one
    found = crossings(one, other, most + 1)
    if len(found) > most:
        raise TooMany("runs", most)
    return (multiple(one[0], other[0]), tuple(sorted(placed(one, other, found))))


def member_of_both(one, other):
    """An integer from 0 on that lies in both rounds; None if there is none."""
    found = crossings(one, other, 1)
    return placed(one, other, found)[0][0] if found else None
