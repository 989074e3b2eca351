"""Logs: what known values and their marks tell of the slips, the periods and the wheels that are off."""

from wheelreach.bounds import need_between, need_from
from wheelreach.errors import BadLog, BadWheel
from wheelreach.meters import how_many_lost, need_meter, places_off
from wheelreach.numbers import is_between, is_from
from wheelreach.papers import Paper
from wheelreach.wheels import MOST_PERIOD

MOST_ITEMS = 60
MOST_WHEELS = 8
BEYOND_VALUES = 10 ** 30
MOST_TRIED = 1000


class Stretch(Paper):
    """Where the offsets of a wheel lie, how wide, and the indexes of those that are left out."""

    def __init__(self, begin, width, left):
        self.begin = begin
        self.width = width
        self.left = left

    def __eq__(self, other):
        if not isinstance(other, Stretch) or self.begin != other.begin:
            return False
        return self.width == other.width and self.left == other.left


def is_period(value):
    """Whether any value is a period that a wheel can have."""
    return is_between(value, 2, MOST_PERIOD)


def need_items(value):
    """Raises BadLog for any value that is no list or tuple of at most 60 items."""
    if not isinstance(value, (list, tuple)) or len(value) > MOST_ITEMS:
        raise BadLog(None)


def narrowest(period, offsets, skip):
    """The begin and the width of the narrowest stretch of all offsets but at most skip; the least begin of these."""
    needed = len(offsets) - skip
    if needed <= 0:
        return (0, 0)
    rows = sorted(offsets)
    rows = rows + [offset + period for offset in rows]
    width, begin = min([(rows[at + needed - 1] - rows[at], rows[at]) for at in range(len(offsets))])
    return (begin, width)


def stretch_of(period, indexed, skip):
    """The Stretch of pairs of an index and an offset."""
    begin, width = narrowest(period, [offset for at, offset in indexed], skip)
    return Stretch(begin, width, tuple([at for at, offset in indexed if (offset - begin) % period > width]))


def least_play(period, offsets, skip):
    """The Stretch of the least width in which all offsets but at most skip lie, by the period."""
    if not is_period(period):
        raise BadWheel("period")
    need_items(offsets)
    for at, offset in enumerate(offsets):
        if not is_between(offset, 0, period - 1):
            raise BadLog(at)
    need_from(skip, 0)
    return stretch_of(period, list(enumerate(offsets)), skip)


def is_pair(value):
    """Whether any value is a tuple of a known value and of a list or tuple."""
    if not isinstance(value, tuple) or len(value) != 2 or not isinstance(value[1], (list, tuple)):
        return False
    return is_between(value[0], 1 - BEYOND_VALUES, BEYOND_VALUES - 1)


def is_entry(value, periods):
    """Whether any value is an entry for wheels with these periods."""
    if not is_pair(value) or len(value[1]) != len(periods):
        return False
    for mark, period in zip(value[1], periods):
        if mark is not None and not is_between(mark, 0, period - 1):
            return False
    return True


def need_entries(entries, periods):
    """Raises BadLog for any value of entries that are none for wheels with these periods."""
    need_items(entries)
    for at, entry in enumerate(entries):
        if not is_entry(entry, periods):
            raise BadLog(at)


def offsets_at(entries, place, period):
    """Pairs of the index of an entry and of the offset of its mark at the place, None left out."""
    rows = []
    for at, (value, marks) in enumerate(entries):
        if marks[place] is not None:
            rows.append((at, (marks[place] - value) % period))
    return rows


def are_periods(value):
    """Whether any value is a list or tuple of 1 to 8 periods."""
    if not isinstance(value, (list, tuple)) or not 1 <= len(value) <= MOST_WHEELS:
        return False
    return all([is_period(period) for period in value])


def plays(periods, entries, skip):
    """For each wheel the Stretch of the offsets of its marks; skip of them may be left out."""
    if not are_periods(periods):
        raise BadWheel("period")
    need_entries(entries, periods)
    need_from(skip, 0)
    return tuple([stretch_of(period, offsets_at(entries, place, period), skip)
                  for place, period in enumerate(periods)])


def need_log(meter, entries):
    """Raises an error for any values that are no Meter and no entries for its wheels."""
    need_meter(meter)
    need_entries(entries, [wheel.period for wheel in meter])


def wheels_off(meter, entries):
    """The places of the wheels that are off, entry by entry."""
    need_log(meter, entries)
    return [places_off(meter, marks, value) for value, marks in entries]


def may_come(meter, marks, value):
    """Whether these marks may come of the value; a trusted wheel is neither lost nor off."""
    for wheel, mark in zip(meter, marks):
        # no wheel lets None
        if wheel.trusted and not wheel.lets(value, mark):
            return False
    return how_many_lost(marks) <= meter.lost and len(places_off(meter, marks, value)) <= meter.off + meter.more


def misread(meter, entries):
    """The indexes of the entries whose marks may not come of their value."""
    need_log(meter, entries)
    return tuple([at for at, (value, marks) in enumerate(entries) if not may_come(meter, marks, value)])


def has_mark(value, place):
    """Whether any value is an entry whose marks are longer than the place, for any wheels."""
    if not is_pair(value) or len(value[1]) <= place:
        return False
    return all([mark is None or is_from(mark, 0) for mark in value[1]])


def periods_that_fit(entries, place, play, most):
    """The periods up to most by which all marks at the place can come of a wheel with this play."""
    need_from(place, 0)
    need_from(play, 0)
    need_between(most, 2, MOST_TRIED)
    need_items(entries)
    for at, entry in enumerate(entries):
        if not has_mark(entry, place):
            raise BadLog(at)
    heard = [marks[place] for value, marks in entries if marks[place] is not None]
    least = max([1, *heard]) + 1
    return tuple([period for period in range(least, most + 1)
                  if stretch_of(period, offsets_at(entries, place, period), 0).width <= play])
