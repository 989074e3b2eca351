"""Readings and blind differences by their definitions, for the tests of meters."""

import itertools

from wheelreach.meters import Meter
from wheelreach.wheels import Even, Exact, Grid, Lagging, Wheel


def is_off(wheel, mark, value):
    """Whether a mark is none that the wheel can show at the value, slip by slip."""
    for slip in range(-wheel.back, wheel.ahead + 1):
        if (value + slip - mark) % wheel.period == 0:
            return False
    return True


def places_off(meter, marks, value):
    return tuple(at for at, wheel in enumerate(meter.wheels)
                 if marks[at] is not None and is_off(wheel, marks[at], value))


def may_come(meter, marks, value):
    off = places_off(meter, marks, value)
    if any(meter.wheels[at].TRUSTED for at in off):
        return False
    return marks.count(None) <= meter.lost and len(off) <= meter.off + meter.more


def fits(meter, marks, value):
    off = places_off(meter, marks, value)
    return not any(meter.wheels[at].TRUSTED for at in off) and len(off) <= meter.off


def readings(meter):
    """All readings of a meter in which no more wheels are lost than may be."""
    rows = []
    for wheel in meter.wheels:
        rows.append(list(range(wheel.period)) + ([] if wheel.TRUSTED else [None]))
    return [marks for marks in itertools.product(*rows) if marks.count(None) <= meter.lost]


def is_near(wheel, d):
    left = d % wheel.period
    return min(left, wheel.period - left) <= wheel.back + wheel.ahead


def blind(meter, d):
    """Whether d is blind, by counting the wheels that part it."""
    others = 0
    for wheel in meter.wheels:
        if not is_near(wheel, d):
            if wheel.TRUSTED:
                return False
            others += 1
    return others <= 2 * meter.off + meter.more + meter.lost


def random_wheel(rng, most):
    period = rng.randint(2, most)
    slip = rng.choice([0, 0, 1, 1, 2, 3])
    return rng.choice([Exact(period), Even(period, slip), Wheel(period, slip, rng.randint(0, 2)), Lagging(period, slip),
                       Grid(period)])


def random_meter(rng, wheels, most, numbers=(0, 0, 0, 1, 2)):
    many = rng.randint(1, wheels)
    off, more, lost = (rng.choice(numbers) for _ in range(3))
    return Meter(*[random_wheel(rng, most) for _ in range(many)], off=off, more=more, lost=lost)
