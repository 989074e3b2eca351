"""Fitting: the lots of the values at which wheels can show the marks of a reading, and what lies in them together."""

from wheelreach.covers import cover_of
from wheelreach.joins import Join, rows_of
from wheelreach.lots import Lot
from wheelreach.meters import picks, places_off


def fit_choices(meter, marks):
    """The choices of a reading: all trusted wheels, and of the others that are not lost all but off."""
    held, others = [], []
    for at, wheel in enumerate(meter):
        if wheel.trusted:
            held.append(at)
        elif marks[at] is not None:
            others.append(at)
    return [tuple(sorted(held + some)) for some in picks(others, max(0, len(others) - meter.off))]


def shown_lots(meter, marks, k=0):
    """For each wheel, wider by k, the Lot of the values at which it can show its mark; None for a lost one."""
    lots = []
    for wheel, mark in zip(meter, marks):
        more = 0 if wheel.trusted else k
        if mark is None:
            lots.append(None)
        else:
            lots.append(Lot(wheel.period, (mark - wheel.ahead - more, mark + wheel.back + more)))
    return lots


def fit_rows(meter, marks, k=0):
    """For each choice of a reading the tables of the join of the lots of its wheels, wider by k."""
    return rows_of(shown_lots(meter, marks, k), fit_choices(meter, marks), {})


def fit_cover(meter, marks, rows, k=0):
    """The Cover of the values that a reading of the meter that is wider by k fits, of these rows of tables."""
    return cover_of(meter, shown_lots(meter, marks, k), rows, meter.off)


def fit_of(meter, marks):
    """The Cover of the values that a reading fits, joined anew."""
    return fit_cover(meter, marks, fit_rows(meter, marks))


def joins_of(rows):
    """A Join of each row of tables."""
    return tuple([Join(tables) for tables in rows])


def does_fit(meter, marks, value):
    """Whether a reading fits a value: no trusted wheel is off for it, and no more of the others than may be."""
    places = places_off(meter, marks, value)
    for place in places:
        if meter.wheels[place].trusted:
            return False
    return len(places) <= meter.off
