"""Readings and the values they fit, one by one, for the tests of what is read."""

import itertools

from wheelreach.meters import Meter
from wheelreach.wheels import Wheel


def lets_fit(meter, marks, value):
    """Whether a reading fits a value, by asking each wheel what it lets."""
    off = [wheel for wheel, mark in zip(meter.wheels, marks) if mark is not None and not wheel.lets(value, mark)]
    return not any(wheel.TRUSTED for wheel in off) and len(off) <= meter.off


def runs_of(values):
    """The maximal runs of ascending values."""
    runs = []
    for value in values:
        if runs and runs[-1][1] == value - 1:
            runs[-1] = (runs[-1][0], value)
        else:
            runs.append((value, value))
    return tuple(runs)


def choices_by_hand(meter, marks):
    """All tuples of places with all trusted wheels and of the others that are not lost all but off."""
    held = [at for at, wheel in enumerate(meter.wheels) if wheel.TRUSTED]
    rest = [at for at, mark in enumerate(marks) if mark is not None and at not in held]
    many = max(0, len(rest) - meter.off)
    return sorted(tuple(sorted([*held, *some])) for some in itertools.combinations(rest, many))


def random_reading(rng, meter):
    """Marks that are mostly those of one value, a little otherwise, some lost."""
    value = rng.randint(-40, 200)
    marks = []
    for wheel in meter.wheels:
        slip = rng.choice([0, 0, 0, -wheel.back, wheel.ahead, 1, rng.randint(0, 20)])
        marks.append((value + (0 if wheel.TRUSTED and rng.random() < 0.9 else slip)) % wheel.period)
    for at in rng.sample(range(len(marks)), min(len(marks), rng.randint(0, meter.lost))):
        if not meter.wheels[at].TRUSTED:
            marks[at] = None
    return tuple(marks)


def by_hand(meter, k):
    """The meter that is wider by k."""
    wheels = [wheel if wheel.TRUSTED else Wheel(wheel.period, wheel.back + k, wheel.ahead + k)
              for wheel in meter.wheels]
    return Meter(*wheels, off=meter.off, more=meter.more, lost=meter.lost)
