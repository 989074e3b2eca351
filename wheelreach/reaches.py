"""Reaches: how far a meter tells a value, and why no farther."""

from wheelreach.bounds import FARTHEST, need_between, need_reach, need_window
from wheelreach.covers import cover_of, last_tables
from wheelreach.errors import BadValue
from wheelreach.joins import rows_of
from wheelreach.lots import Lot
from wheelreach.meters import need_meter
from wheelreach.numbers import is_between
from wheelreach.papers import Paper


class Unsure(Paper):
    """Two values and one reading, which may come of one of them and fits the other one."""

    def __init__(self, low, high, marks, low_off, high_off):
        self.low = low
        self.high = high
        self.marks = marks
        self.low_off = low_off
        self.high_off = high_off

    def __bool__(self):
        return False

    def __eq__(self, other):
        if not isinstance(other, Unsure) or self.low != other.low or self.high != other.high:
            return False
        return self.marks == other.marks and self.low_off == other.low_off and self.high_off == other.high_off


class Sure(Paper):
    """For each choice the tables of the join of the near lots of its wheels."""

    def __init__(self, tables):
        self.tables = tables

    def __eq__(self, other):
        return isinstance(other, Sure) and self.tables == other.tables


def nears_of(meter):
    """The near lot of each wheel."""
    return [wheel.near for wheel in meter]


def blind_rows(meter, known):
    """For each choice of the meter the tables of its join; known as in tables_along, for the same wheels."""
    choices = list(meter.choices())
    return rows_of(nears_of(meter), choices, known)


def blind_cover(meter, rows):
    """The Cover of the blind differences."""
    return cover_of(meter, nears_of(meter), rows, meter.spare)


def blind_of(meter):
    """The Cover of the blind differences, joined anew."""
    return blind_cover(meter, blind_rows(meter, {}))


def next_blind(meter, after):
    """The least blind difference above an integer."""
    need_meter(meter)
    need_between(after, -FARTHEST, FARTHEST)
    return blind_of(meter).next_in(after + 1)


def last_blind(meter, before):
    """The greatest blind difference below an integer."""
    need_meter(meter)
    need_between(before, -FARTHEST, FARTHEST)
    return blind_of(meter).last_in(before - 1)


def blind_lots(meter):
    """For each choice the Lot of the differences that none of its wheels parts."""
    need_meter(meter)
    lots = []
    for period, runs in last_tables(blind_rows(meter, {})):
        lots.append(Lot(period, *runs))
    return tuple(lots)


def reach_of(meter, window):
    """The greatest reach for which the meter is sure with this window."""
    need_meter(meter)
    need_window(window)
    return blind_of(meter).next_in(window + 1)


def profile(meter, window):
    """The greatest reaches with the spare 0, 1 and so on, up to the number of wheels that are not trusted."""
    need_meter(meter)
    need_window(window)
    many = len([wheel for wheel in meter if not wheel.trusted])
    known = {}
    reaches = []
    for spare in range(many + 1):
        other = meter.with_numbers(0, spare, 0)
        reaches.append(blind_cover(other, blind_rows(other, known)).next_in(window + 1))
    return tuple(reaches)


def mark_at_both(wheel, d):
    """A mark that a wheel which does not part d can show at 0 as well as at d."""
    left = d % wheel.period
    # how far d lies above the nearest multiple of the period, or below it
    away = left if left <= wheel.play else left - wheel.period
    return max(-wheel.back, away - wheel.back) % wheel.period


def pair_at(meter, d):
    """The Unsure of 0 and a blind difference d."""
    need_meter(meter)
    if not is_between(d, 1, FARTHEST) or not meter.is_blind(d):
        raise BadValue(d)
    parting = meter.parting(d)
    low_end = meter.lost + meter.off + meter.more
    lost, low_off, high_off = parting[:meter.lost], parting[meter.lost:low_end], parting[low_end:]
    marks = []
    for at, wheel in enumerate(meter):
        if at in lost:
            marks.append(None)
        elif at in low_off:
            marks.append(wheel(d))
        elif at in high_off:
            marks.append(wheel(0))
        else:
            marks.append(mark_at_both(wheel, d))
    return Unsure(0, d, tuple(marks), low_off, high_off)


def sure(meter, reach, window):
    """A Sure if the meter is sure for this reach and this window; otherwise the least Unsure."""
    need_meter(meter)
    need_reach(reach)
    need_window(window)
    return sure_by_rows(meter, blind_rows(meter, {}), reach, window)


def sure_by_rows(meter, rows, reach, window):
    """What sure returns for a meter whose choices have these rows of tables."""
    d = blind_cover(meter, rows).next_in(window + 1)
    return pair_at(meter, d) if d < reach else Sure(rows)
