"""Speeds: how far a value can move between two readings and stay told, and what known moves tell."""

from wheelreach.bounds import MOST_SPREAD, need_between, need_reach, need_whole, need_window
from wheelreach.meters import need_meter
from wheelreach.papers import Paper
from wheelreach.reaches import blind_cover, blind_of, blind_rows, sure, sure_by_rows


class Kept(Paper):
    """The greatest blind difference up to a window, and the Sure by which a value is kept."""

    def __init__(self, edge, certificate):
        self.edge = edge
        self.certificate = certificate

    def __eq__(self, other):
        return isinstance(other, Kept) and self.edge == other.edge and self.certificate == other.certificate


class Drifts(Paper):
    """A blind difference up to a window, and the Unsure to which a value can be moved from it."""

    def __init__(self, edge, counterexample):
        self.edge = edge
        self.counterexample = counterexample

    def __bool__(self):
        return False

    def __eq__(self, other):
        return isinstance(other, Drifts) and self.edge == other.edge and self.counterexample == other.counterexample


def need_meter_and_window(meter, window):
    """Raises an error for any values that are no Meter and no window that a value can be kept within."""
    need_meter(meter)
    need_between(window, 0, MOST_SPREAD)


def edge_of(meter, window):
    """The greatest blind difference up to the window."""
    need_meter_and_window(meter, window)
    return blind_of(meter).last_in(window)


def keeps(meter, window, spread):
    """A Kept if a value that was told within the window is kept with this spread; otherwise a Drifts."""
    need_meter_and_window(meter, window)
    need_between(spread, 0, MOST_SPREAD)
    rows = blind_rows(meter, {})
    edge = blind_cover(meter, rows).last_in(window)
    answer = sure_by_rows(meter, rows, edge + spread + 1, window)
    return Kept(edge, answer) if answer else Drifts(edge, answer)


def greatest_spread(meter, window):
    """The greatest spread with which a value that was told within the window is kept."""
    need_meter_and_window(meter, window)
    cover = blind_of(meter)
    return cover.next_in(window + 1) - cover.last_in(window) - 1


def left_by(reach, *moves):
    """How many values from 0 to reach - 1 stay there while they are moved by these integers, one behind the other."""
    need_reach(reach)
    for move in moves:
        need_whole(move)
    place, low, high = 0, 0, 0
    for move in moves:
        place = place + move
        low, high = min(low, place), max(high, place)
    return max(0, reach - (high - low))


def sure_by_moves(meter, reach, window, *moves):
    """What sure returns for the reach that these moves leave, or 1 if they leave none."""
    need_meter(meter)
    need_reach(reach)
    need_window(window)
    left = left_by(reach, *moves)
    return sure(meter, max(1, left), window)
