"""A look at what tells whether a value is kept; nothing is joined here."""

from wheelreach.bounds import MOST_SPREAD, need_between
from wheelreach.covers import last_tables
from wheelreach.look_reaches import shows_sure
from wheelreach.numbers import is_between
from wheelreach.reaches import Sure, Unsure
from wheelreach.rounds import last_member
from wheelreach.speeds import Drifts, Kept, need_meter_and_window


def shows_keeping(meter, window, spread, value):
    """Whether any value is a right Kept or a right Drifts for this meter, window and spread."""
    need_meter_and_window(meter, window)
    need_between(spread, 0, MOST_SPREAD)
    if isinstance(value, Kept):
        return shows_kept(meter, window, spread, value)
    return isinstance(value, Drifts) and shows_drifts(meter, window, spread, value)


def shows_kept(meter, window, spread, kept):
    """Whether a Kept has the greatest edge and a right Sure."""
    edge, found = kept.edge, kept.certificate
    if not is_between(edge, 0, window) or not isinstance(found, Sure):
        return False
    if not shows_sure(meter, edge + spread + 1, window, found):
        return False
    # these tables are right, so the blind differences are just what lies in one of them
    return edge == max([last_member(table, window) for table in last_tables(found.tables)])


def shows_drifts(meter, window, spread, drifts):
    """Whether a Drifts has an edge that is blind and a right Unsure."""
    edge, found = drifts.edge, drifts.counterexample
    if not is_between(edge, 0, window) or not meter.is_blind(edge) or not isinstance(found, Unsure):
        return False
    return shows_sure(meter, edge + spread + 1, window, found)
