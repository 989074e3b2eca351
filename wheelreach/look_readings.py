"""A look at what a reading tells; nothing is solved here."""

from wheelreach.fitting import does_fit, fit_choices, fit_cover, shown_lots
from wheelreach.joins import Join
from wheelreach.look_joins import are_tables
from wheelreach.numbers import is_whole
from wheelreach.readings import Noticed, Spread, Told, need_question


def shows_told(meter, marks, reach, window, value):
    """Whether any value is a right Told, a right Spread or a right Noticed for this reading, reach and window."""
    need_question(meter, marks, reach, window)
    if isinstance(value, Spread):
        return shows_spread(meter, marks, reach, window, value)
    if not isinstance(value, Told) and not isinstance(value, Noticed):
        return False
    if not are_fit_joins(meter, marks, 0, value.tables):
        return False
    cover = shown_cover(meter, marks, 0, value.tables)
    if isinstance(value, Noticed):
        return not cover.has_between(0, reach - 1)
    return shows_ends(cover, reach, window, value)


def shows_ends(cover, reach, window, found):
    """Whether a Told has the least and the greatest value within the reach that is covered."""
    low, high = found.low, found.high
    if not is_whole(low) or not is_whole(high) or not cover.has_between(0, reach - 1):
        return False
    return high - low <= window and low == cover.next_in(0) and high == cover.last_in(reach - 1)


def shows_spread(meter, marks, reach, window, spread):
    """Whether a Spread has two values within the reach that the reading fits, farther apart than the window."""
    low, high = spread.low, spread.high
    if not is_whole(low) or not is_whole(high) or low < 0 or high >= reach or high - low <= window:
        return False
    return does_fit(meter, marks, low) and does_fit(meter, marks, high)


def are_fit_joins(meter, marks, k, value):
    """Whether any value is the tuple of the Joins of a reading of the meter that is wider by k."""
    choices = fit_choices(meter, marks)
    if not isinstance(value, tuple) or len(value) != len(choices):
        return False
    lots = shown_lots(meter, marks, k)
    for choice, found in zip(choices, value):
        if not isinstance(found, Join) or not are_tables(found.tables, [lots[place] for place in choice]):
            return False
    return True


def shown_cover(meter, marks, k, joins):
    """The Cover of what a reading of the meter that is wider by k fits, by Joins that are right."""
    return fit_cover(meter, marks, [found.tables for found in joins], k)
