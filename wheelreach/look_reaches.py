"""A look at what tells whether a meter is sure; nothing is joined here."""

from wheelreach.bounds import need_reach, need_window
from wheelreach.look_joins import are_tables
from wheelreach.meters import how_many_lost, need_meter, places_off
from wheelreach.numbers import is_between, is_whole
from wheelreach.reaches import Sure, Unsure
from wheelreach.rounds import next_member


def shows_sure(meter, reach, window, value):
    """Whether any value is a right Sure or a right Unsure for this reach and this window."""
    need_meter(meter)
    need_reach(reach)
    need_window(window)
    if isinstance(value, Sure):
        return shows_all(meter, reach, window, value.tables)
    return isinstance(value, Unsure) and shows_pair(meter, reach, window, value)


def shows_all(meter, reach, window, rows):
    """Whether rows, any value, are the tables of all choices, and tell of no blind difference that is in the way."""
    choices = list(meter.choices())
    if not isinstance(rows, tuple) or len(rows) != len(choices):
        return False
    nears = [wheel.near for wheel in meter]
    for choice, tables in zip(choices, rows):
        if not are_tables(tables, [nears[place] for place in choice]):
            return False
        if first_above(tables, window) < reach:
            return False
    return True


def first_above(tables, window):
    """The least integer above the window in the last of these tables; each integer lies in no tables."""
    if not tables:
        return window + 1
    return next_member(tables[-1], window + 1)


def shows_pair(meter, reach, window, pair):
    """Whether an Unsure has two values and a reading that show that the meter is not sure."""
    low, high = pair.low, pair.high
    if not is_whole(low) or not is_whole(high) or not 0 <= low < high < reach or high - low <= window:
        return False
    if not is_reading(meter, pair.marks):
        return False
    low_off = places_off(meter, pair.marks, low)
    high_off = places_off(meter, pair.marks, high)
    if not are_places(pair.low_off, low_off) or not are_places(pair.high_off, high_off):
        return False
    for place in low_off + high_off:
        if meter.wheels[place].trusted:
            return False
    fewer, greater = sorted([len(low_off), len(high_off)])
    return fewer <= meter.off and greater <= meter.off + meter.more


def is_reading(meter, marks):
    """Whether any value is a tuple of marks for the wheels, in which no more of them are lost than may be."""
    if not isinstance(marks, tuple) or len(marks) != len(meter):
        return False
    for wheel, mark in zip(meter, marks):
        if mark is None and wheel.trusted:
            return False
        if mark is not None and not is_between(mark, 0, wheel.period - 1):
            return False
    return how_many_lost(marks) <= meter.lost


def are_places(value, places):
    """Whether any value is just this tuple of integers, kinds counted."""
    if value != places:
        return False
    for place in value:
        if not is_whole(place):
            return False
    return True
