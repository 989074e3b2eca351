"""Design: the cheapest wheels of a shelf that are sure, and how far more money reaches."""

from wheelreach.bounds import need_reach, need_window
from wheelreach.errors import BadShelf
from wheelreach.joins import rows_of
from wheelreach.meters import need_count, picks
from wheelreach.papers import Paper
from wheelreach.reaches import blind_cover, sure_by_rows
from wheelreach.shelf import Shelf


class Cheapest(Paper):
    """The best selection that is sure, its cost, the Sure, and differences of which each better one has a blind one."""

    def __init__(self, names, price, certificate, bars):
        self.names = names
        self.price = price
        self.certificate = certificate
        self.bars = bars

    def __eq__(self, other):
        if not isinstance(other, Cheapest) or self.names != other.names or self.price != other.price:
            return False
        return self.certificate == other.certificate and self.bars == other.bars


class NoChoice(Paper):
    """A difference that is in the way of all names together; None if there are no names."""

    def __init__(self, bar):
        self.bar = bar

    def __bool__(self):
        return False

    def __eq__(self, other):
        return isinstance(other, NoChoice) and self.bar == other.bar


def need_shelf(shelf):
    """Raises BadShelf for any value that is no Shelf."""
    if not isinstance(shelf, Shelf):
        raise BadShelf("shelf")


def need_counts(off, more, lost):
    """Raises BadMeter for any values that are no numbers of a meter."""
    need_count(off, "off")
    need_count(more, "more")
    need_count(lost, "lost")


def selections(shelf):
    """All selections, the better ones first: the cost, how many names, and the names of each."""
    names = list(shelf)
    rows = []
    for many in range(1, len(names) + 1):
        for some in picks(names, many):
            rows.append((shelf.cost(*some), many, tuple(some)))
    return sorted(rows)


def nears_by_name(shelf):
    """The near lot of the wheel of each name."""
    nears = {}
    for name in shelf:
        wheel, _ = shelf[name]
        nears[name] = wheel.near
    return nears


def rows_by_name(meter, names, nears, known):
    """For each choice of the meter of these names the tables of its join; known keeps them by their names."""
    choices = [tuple([names[at] for at in choice]) for choice in meter.choices()]
    return rows_of(nears, choices, known)


def has_blind(meter, bars):
    """Whether one of the bars is blind for the meter."""
    for bar in bars:
        if meter.is_blind(bar):
            return True
    return False


def cheapest(shelf, reach, window, off=0, more=0, lost=0):
    """The Cheapest of the best selection that is sure for this reach and this window; a NoChoice if there is none."""
    need_shelf(shelf)
    need_reach(reach)
    need_window(window)
    need_counts(off, more, lost)
    every = tuple(shelf)
    if not every:
        return NoChoice(None)
    nears, known = nears_by_name(shelf), {}
    whole = shelf.chosen(*every, off=off, more=more, lost=lost)
    answer = sure_by_rows(whole, rows_by_name(whole, every, nears, known), reach, window)
    if not answer:
        return NoChoice(answer.high)
    bars = []
    for price, _, names in selections(shelf):
        meter = shelf.chosen(*names, off=off, more=more, lost=lost)
        answer = sure_by_rows(meter, rows_by_name(meter, names, nears, known), reach, window)
        if answer:
            break
        if not has_blind(meter, bars):
            bars.append(answer.high)
    return Cheapest(names, price, answer, tuple(sorted(bars)))


def frontier(shelf, window, off=0, more=0, lost=0):
    """For each selection that reaches farther than all better ones: its cost, its greatest reach, and its names."""
    need_shelf(shelf)
    need_window(window)
    need_counts(off, more, lost)
    nears, known = nears_by_name(shelf), {}
    rows = []
    farthest = 0
    for price, _, names in selections(shelf):
        meter = shelf.chosen(*names, off=off, more=more, lost=lost)
        reach = blind_cover(meter, rows_by_name(meter, names, nears, known)).next_in(window + 1)
        if reach > farthest:
            farthest = reach
            rows.append((price, reach, names))
    return tuple(rows)
