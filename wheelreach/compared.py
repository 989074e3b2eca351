"""Compared: whether all that is blind for one meter is blind for another one."""

from wheelreach.errors import BadMeter
from wheelreach.joins import join
from wheelreach.meets import member_of_both
from wheelreach.meters import Meter, need_meter
from wheelreach.papers import Paper
from wheelreach.reaches import blind_lots, nears_of
from wheelreach.rounds import rest_of


class Holds(Paper):
    """The tables of what is blind for one meter, all of which is blind for the other one."""

    def __init__(self, tables):
        self.tables = tables

    def __eq__(self, other):
        return isinstance(other, Holds) and self.tables == other.tables


class Fails(Paper):
    """A difference that is blind for one meter and not for the other one."""

    def __init__(self, d):
        self.d = d

    def __bool__(self):
        return False

    def __eq__(self, other):
        return isinstance(other, Fails) and self.d == other.d


def need_no_spare(*meters):
    """Raises BadMeter if a meter has another spare than 0."""
    for meter in meters:
        if meter.spare != 0:
            raise BadMeter("spare")


def need_both(one, other):
    """Raises BadMeter for any values that are no two Meters with the spare 0."""
    if not isinstance(one, Meter):
        raise BadMeter("one")
    if not isinstance(other, Meter):
        raise BadMeter("other")
    need_no_spare(one, other)


def blind_lot(meter):
    """The Lot of all blind differences."""
    need_meter(meter)
    need_no_spare(meter)
    # without a spare there is one choice alone, that of all wheels
    return blind_lots(meter)[0]


def tells_no_less(one, other):
    """A Holds if all that is blind for one is blind for other; otherwise a Fails."""
    need_both(one, other)
    nears = nears_of(one)
    tables = join(*nears).tables
    for wheel in other:
        near = wheel.near
        d = member_of_both(tables[-1], rest_of((near.period, near.runs)))
        if d is not None:
            return Fails(d)
    return Holds(tables)


def are_alike(one, other):
    """Whether the same differences are blind for both."""
    need_both(one, other)
    return blind_lot(one) == blind_lot(other)
