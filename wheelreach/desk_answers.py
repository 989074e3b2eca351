"""What a desk answers to the lines that only ask, by what stands on it: its meter, its follower and its shelf."""

from wheelreach.design import cheapest
from wheelreach.nearest import nearest
from wheelreach.reaches import Unsure, last_blind, next_blind, reach_of, sure
from wheelreach.readings import Noticed, Told, maybe_off, surely_off, told
from wheelreach.texts import places_text, reading_text, runs_text, shelf_text
from wheelreach.windows import least_window
from wheelreach.words import integer_text


def show_meter(held):
    """The text of the meter."""
    return str(held[0])


def show_shelf(held):
    """The text of the shelf, on one line."""
    return " ; ".join(shelf_text(held[2]).split("\n"))


def tell_runs(held):
    """The follower's runs."""
    return runs_text(held[1].runs)


def tell_known(held):
    """The follower's one value."""
    value = held[1].known
    return "-" if value is None else integer_text(value)


def tell_exact(held, value):
    """The reading without slips."""
    meter = held[0]
    return reading_text(meter(value))


def tell_blind(held, d):
    """Whether a difference is blind."""
    return "yes" if held[0].is_blind(d) else "no"


def tell_next(held, d):
    """The least blind difference above another one."""
    return integer_text(next_blind(held[0], d))


def tell_last(held, d):
    """The greatest blind difference below another one."""
    return integer_text(last_blind(held[0], d))


def tell_reach(held, window):
    """The greatest reach for a window."""
    return integer_text(reach_of(held[0], window))


def tell_window(held, reach):
    """The least window for a reach."""
    return integer_text(least_window(held[0], reach))


def tell_sure(held, reach, window):
    """Whether the meter is sure; two values and their reading if it is not."""
    paper = sure(held[0], reach, window)
    if not isinstance(paper, Unsure):
        return "sure"
    return f"unsure {integer_text(paper.low)} {integer_text(paper.high)} : {reading_text(paper.marks)}"


def tell_told(held, reach, window, marks):
    """What a reading tells."""
    paper = told(held[0], marks, reach, window)
    if isinstance(paper, Noticed):
        return "noticed"
    word = "told" if isinstance(paper, Told) else "spread"
    return f"{word} {integer_text(paper.low)} {integer_text(paper.high)}"


def tell_off(held, reach, marks):
    """The places of the wheels that are surely off, and of those that may be."""
    surely = surely_off(held[0], marks, reach)
    maybe = maybe_off(held[0], marks, reach)
    return f"{places_text(surely)} / {places_text(maybe)}"


def tell_nearest(held, reach, marks):
    """The least strain, and the values that have it."""
    paper = nearest(held[0], marks, reach)
    return f"{paper.strain} : {runs_text(paper.runs)}"


def tell_choice(held, reach, window, off, more, lost):
    """The price and the names of the best selection of the shelf that is sure."""
    paper = cheapest(held[2], reach, window, off, more, lost)
    if not paper:
        return "none"
    names = " ".join(paper.names)
    return f"{paper.price} : {names}"


ANSWERS = {
    "show": show_meter, "shelf": show_shelf, "runs": tell_runs, "known": tell_known, "exact": tell_exact,
    "blind": tell_blind, "next": tell_next, "last": tell_last, "reach": tell_reach, "window": tell_window,
    "sure": tell_sure, "told": tell_told, "off": tell_off, "nearest": tell_nearest, "choose": tell_choice,
}
