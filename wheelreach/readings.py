"""Readings: which values a reading fits, what it tells of the value, and which wheels are off."""

from wheelreach.bounds import need_from, need_reach, need_whole
from wheelreach.errors import TooMany, Unfit
from wheelreach.fitting import fit_choices, fit_cover, fit_of, fit_rows, joins_of, shown_lots
from wheelreach.meters import need_reading, places_off
from wheelreach.papers import Paper
from wheelreach.rounds import has_run

MOST_FITS = 500


class Told(Paper):
    """The least and the greatest value within a reach that a reading fits, and the tables that show it."""

    def __init__(self, low, high, tables):
        self.low = low
        self.high = high
        self.tables = tables

    def __eq__(self, other):
        if not isinstance(other, Told) or self.low != other.low:
            return False
        return self.high == other.high and self.tables == other.tables


class Spread(Paper):
    """Two values within a reach that a reading fits, farther apart than the window."""

    def __init__(self, low, high):
        self.low = low
        self.high = high

    def __bool__(self):
        return False

    def __eq__(self, other):
        return isinstance(other, Spread) and self.low == other.low and self.high == other.high


class Noticed(Paper):
    """The tables that show that a reading fits no value within a reach."""

    def __init__(self, tables):
        self.tables = tables

    def __bool__(self):
        return False

    def __eq__(self, other):
        return isinstance(other, Noticed) and self.tables == other.tables


def choices_of(meter, marks):
    """The choices of a reading: it fits a value if all wheels of one of them can show their marks there."""
    need_reading(meter, marks)
    yield from fit_choices(meter, marks)


def tables_of(meter, marks):
    """For each choice the Join of the lots of the values at which its wheels can show their marks."""
    need_reading(meter, marks)
    return joins_of(fit_rows(meter, marks))


def fits(meter, marks, low, high):
    """The maximal runs of the values from low to high that the reading fits."""
    need_reading(meter, marks)
    need_whole(low)
    need_whole(high)
    runs = fit_of(meter, marks).runs_within(low, high, MOST_FITS + 1)
    if len(runs) > MOST_FITS:
        raise TooMany("runs", MOST_FITS)
    return tuple(runs)


def next_fit(meter, marks, begin):
    """The least value from begin on that the reading fits; None if it fits no integer."""
    need_reading(meter, marks)
    need_whole(begin)
    return fit_of(meter, marks).next_in(begin)


def last_fit(meter, marks, end):
    """The greatest value up to end that the reading fits; None if it fits no integer."""
    need_reading(meter, marks)
    need_whole(end)
    return fit_of(meter, marks).last_in(end)


def each_fit(meter, marks, begin=0):
    """All integers from begin on that the reading fits, ascending."""
    need_reading(meter, marks)
    need_whole(begin)
    cover = fit_of(meter, marks)
    number = cover.next_in(begin)
    while number is not None:
        yield number
        number = cover.next_in(number + 1)


def off_at(meter, marks, value):
    """The places of the wheels that are off for this value."""
    need_reading(meter, marks)
    need_whole(value)
    return places_off(meter, marks, value)


def need_question(meter, marks, reach, window):
    """Raises an error unless it can be asked what the marks tell of a value within this reach and this window."""
    need_reading(meter, marks)
    need_reach(reach)
    need_from(window, 0)


def told(meter, marks, reach, window):
    """What a reading tells of a value within a reach: a Told, a Spread or a Noticed."""
    need_question(meter, marks, reach, window)
    rows = fit_rows(meter, marks)
    cover = fit_cover(meter, marks, rows)
    if not cover.has_between(0, reach - 1):
        return Noticed(joins_of(rows))
    low, high = cover.next_in(0), cover.last_in(reach - 1)
    if high - low > window:
        return Spread(low, high)
    return Told(low, high, joins_of(rows))


def fitting_runs(meter, marks, reach):
    """The runs of the values within a reach that the reading fits; there must be one."""
    need_reading(meter, marks)
    need_reach(reach)
    runs = fits(meter, marks, 0, reach - 1)
    if not runs:
        raise Unfit()
    return runs


def shows_nowhere(lot, runs):
    """Whether no member of the runs is one of the lot."""
    for begin, end in runs:
        if lot.at_least(begin) <= end:
            return False
    return True


def shows_everywhere(lot, runs):
    """Whether all members of the runs are members of the lot."""
    for run in runs:
        if not has_run((lot.period, lot.runs), run):
            return False
    return True


def surely_off(meter, marks, reach):
    """The places of the wheels that are off for all values within a reach that the reading fits."""
    runs = fitting_runs(meter, marks, reach)
    lots = shown_lots(meter, marks)
    return tuple([at for at, lot in enumerate(lots) if lot is not None and shows_nowhere(lot, runs)])


def maybe_off(meter, marks, reach):
    """The places of the wheels that are off for some values within a reach that the reading fits."""
    runs = fitting_runs(meter, marks, reach)
    lots = shown_lots(meter, marks)
    return tuple([at for at, lot in enumerate(lots) if lot is not None and not shows_everywhere(lot, runs)])
