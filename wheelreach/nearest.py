"""Nearest: the values that come nearest to a reading, also where it fits none."""

from wheelreach.bounds import need_reach, need_whole
from wheelreach.errors import TooMany
from wheelreach.fitting import fit_cover, fit_rows, joins_of
from wheelreach.meters import need_reading
from wheelreach.numbers import together
from wheelreach.papers import Paper
from wheelreach.readings import MOST_FITS

MOST_STRAIN = 1000


class Nearest(Paper):
    """The least strain of a value within a reach, all values that have it, and the tables that show it."""

    def __init__(self, strain, runs, less, tables):
        self.strain = strain
        self.runs = runs
        self.less = less
        self.tables = tables

    def __eq__(self, other):
        if not isinstance(other, Nearest) or self.strain != other.strain or self.runs != other.runs:
            return False
        return self.less == other.less and self.tables == other.tables


def wheel_strain(wheel, mark, value):
    """By how much the slips of a wheel must be greater, so that it can show the mark at the value."""
    away = (mark - value) % wheel.period
    return max(0, min(away - wheel.ahead, wheel.period - away - wheel.back))


def strain(meter, marks, value):
    """The least k for which the value fits the reading of the meter that is wider by k; None if there is none."""
    need_reading(meter, marks)
    need_whole(value)
    strains = []
    for wheel, mark in zip(meter, marks):
        if mark is None:
            continue
        needed = wheel_strain(wheel, mark, value)
        if not wheel.trusted:
            strains.append(needed)
        elif needed > 0:
            return None
    # the wheels that need most are those that may be off
    return max(sorted(strains)[:max(0, len(strains) - meter.off)], default=0)


def has_strain(meter, marks, reach):
    """Whether a value within the reach has a strain: no trusted wheel is off for it."""
    parts = [(mark, wheel.period) for wheel, mark in zip(meter, marks) if wheel.trusted]
    first = together(*parts)
    return first is not None and first < reach


def stretch_ends(meter, marks):
    """Ends of stretches of k: within one of them no wheel becomes so wide that it can show its mark everywhere.

    So within a stretch no two runs grow together, and the reading of a wider meter has no fewer runs. (The stretch of 0
    alone comes first, since most readings fit some value.)
    """
    ends = [0, MOST_STRAIN]
    for wheel, mark in zip(meter, marks):
        full = (wheel.period - wheel.play) // 2
        if mark is not None and not wheel.trusted and 0 < full <= MOST_STRAIN:
            ends.append(full - 1)
    return sorted(ends)


def is_enough(meter, marks, reach, k):
    """Whether the reading is heavy for the meter that is wider by k, or fits a value within the reach."""
    try:
        rows = fit_rows(meter, marks, k)
    except TooMany:
        return True
    return fit_cover(meter, marks, rows, k).has_between(0, reach - 1)


def first_enough(meter, marks, reach):
    """The least k that is enough."""
    low = 0
    for end in stretch_ends(meter, marks):
        if low <= end and is_enough(meter, marks, reach, end):
            high = end
            while low < high:
                middle = (low + high) // 2
                if is_enough(meter, marks, reach, middle):
                    high = middle
                else:
                    low = middle + 1
            return high
        low = max(low, end + 1)
    raise TooMany("strain", MOST_STRAIN)


def nearest(meter, marks, reach):
    """The Nearest of a reading: all values within a reach that have the least strain."""
    need_reading(meter, marks)
    need_reach(reach)
    if not has_strain(meter, marks, reach):
        raise TooMany("strain", MOST_STRAIN)
    k = first_enough(meter, marks, reach)
    rows = fit_rows(meter, marks, k)
    runs = fit_cover(meter, marks, rows, k).runs_within(0, reach - 1, MOST_FITS + 1)
    if len(runs) > MOST_FITS:
        raise TooMany("runs", MOST_FITS)
    less = joins_of(fit_rows(meter, marks, k - 1)) if k > 0 else ()
    return Nearest(k, tuple(runs), less, joins_of(rows))
