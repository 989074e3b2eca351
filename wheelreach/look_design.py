"""A look at what is chosen of a shelf; nothing is joined here."""

from wheelreach.bounds import need_reach, need_window
from wheelreach.design import Cheapest, NoChoice, has_blind, need_counts, need_shelf, selections
from wheelreach.look_reaches import shows_sure
from wheelreach.numbers import is_between, is_whole
from wheelreach.reaches import Sure


def shows_choice(shelf, reach, window, value, off=0, more=0, lost=0):
    """Whether any value is a right Cheapest or a right NoChoice for this shelf, reach and window."""
    need_shelf(shelf)
    need_reach(reach)
    need_window(window)
    need_counts(off, more, lost)
    numbers = (off, more, lost)
    if isinstance(value, NoChoice):
        return shows_none(shelf, reach, window, numbers, value.bar)
    if not isinstance(value, Cheapest) or not shows_price(shelf, value):
        return False
    if not shows_certificate(shelf, reach, window, numbers, value):
        return False
    return are_bars(value.bars, reach, window) and bars_all_better(shelf, numbers, value)


def meter_with(shelf, names, numbers):
    """The Meter of a selection with these numbers."""
    off, more, lost = numbers
    return shelf.chosen(*names, off=off, more=more, lost=lost)


def shows_none(shelf, reach, window, numbers, bar):
    """Whether any value is a difference that is in the way of all names; None for no names."""
    every = tuple(shelf)
    if not every:
        return bar is None
    return is_between(bar, window + 1, reach - 1) and meter_with(shelf, every, numbers).is_blind(bar)


def is_selection(shelf, value):
    """Whether any value is an ascending tuple of one or more names on the shelf."""
    if not isinstance(value, tuple) or not value:
        return False
    ahead = ""
    for name in value:
        if name not in shelf or name <= ahead:
            return False
        ahead = name
    return True


def shows_price(shelf, paper):
    """Whether a Cheapest has a selection and its cost."""
    if not is_selection(shelf, paper.names):
        return False
    names = paper.names
    return is_whole(paper.price) and paper.price == shelf.cost(*names)


def shows_certificate(shelf, reach, window, numbers, paper):
    """Whether the certificate of a Cheapest is a right Sure for its selection."""
    found = paper.certificate
    return isinstance(found, Sure) and shows_sure(meter_with(shelf, paper.names, numbers), reach, window, found)


def are_bars(value, reach, window):
    """Whether any value is an ascending tuple of differences above the window and below the reach."""
    if not isinstance(value, tuple):
        return False
    ahead = window
    for bar in value:
        if not is_between(bar, ahead + 1, reach - 1):
            return False
        ahead = bar
    return True


def unlike_bars(meter, bars):
    """Some of the bars; each other one is parted by just the same wheels as one of these."""
    found = {}
    for bar in bars:
        found[meter.parting(bar)] = bar
    return list(found.values())


def bars_all_better(shelf, numbers, paper):
    """Whether each selection that is better than that of a Cheapest has a blind one among its bars."""
    bars = unlike_bars(meter_with(shelf, tuple(shelf), numbers), paper.bars)
    for _, _, names in selections(shelf):
        if names == paper.names:
            break
        if not has_blind(meter_with(shelf, names, numbers), bars):
            return False
    return True
