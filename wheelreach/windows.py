"""Windows: how near a meter tells a value, for each reach."""

from wheelreach.bounds import need_reach, need_window
from wheelreach.meters import need_meter
from wheelreach.reaches import blind_of


def least_window(meter, reach):
    """The least window for which the meter is sure for this reach."""
    need_meter(meter)
    need_reach(reach)
    return blind_of(meter).last_in(reach - 1)


def windows(meter, most, begin=0):
    """Pairs of a window that is the end of a run of blind differences, and the greatest reach for it, ascending."""
    need_meter(meter)
    need_window(most)
    need_window(begin)
    cover = blind_of(meter)
    blind = cover.next_in(begin)
    while blind <= most:
        window = cover.end_at(blind, most + 1)
        if window > most:
            return
        blind = cover.next_in(window + 1)
        yield (window, blind)
