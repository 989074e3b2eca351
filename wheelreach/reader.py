"""Reads texts back: readings, shelves and what tells whether a meter is sure."""

from wheelreach.lines import Lines, take_any_runs
from wheelreach.meters import MOST_WHEELS
from wheelreach.reaches import Sure, Unsure
from wheelreach.shelf import MOST_NAMES, MOST_PRICE, Shelf
from wheelreach.wheels import take_wheel
from wheelreach.words import BEYOND


def read_reading(text):
    """The tuple of marks with this text."""
    lines = Lines(text)
    words = lines.following()
    marks = take_reading(words)
    words.finish()
    lines.finish()
    return marks


def take_reading(words):
    """The marks that all following words are, at most 8."""
    marks = [words.take_mark()]
    while len(marks) < MOST_WHEELS and words.upcoming() is not None:
        marks.append(words.take_mark())
    return tuple(marks)


def read_shelf(text):
    """The Shelf with this text."""
    lines = Lines(text)
    shelf = take_shelf(lines)
    lines.finish()
    return shelf


def take_shelf(lines):
    """The Shelf that all following lines tell, with nothing to take back."""
    words = lines.following()
    rows = []
    if words.upcoming() == "-":
        words.take("-")
        words.finish()
        return Shelf()
    rows.append(take_row(words, ""))
    while len(rows) < MOST_NAMES and lines.are_left():
        rows.append(take_row(lines.following(), rows[-1][0]))
    shelf = Shelf()
    shelf.stock(*rows)
    return shelf.twin()


def take_row(words, ahead):
    """The name, the wheel and the price of a line; the name stands behind the one ahead of it."""
    name = words.take_name(ahead)
    price = words.take_number(0, MOST_PRICE)
    words.take(":")
    wheel = take_wheel(words)
    words.finish()
    return (name, wheel, price)


def read_verdict(text):
    """The Sure or the Unsure with this text."""
    lines = Lines(text)
    words = lines.following()
    if words.take("unsure", "sure") == "sure":
        words.finish()
        paper = Sure(take_choices(lines))
    else:
        low = words.take_whole()
        high = words.take_whole()
        words.finish()
        paper = take_pair(lines, low, high)
    lines.finish()
    return paper


def take_pair(lines, low, high):
    """The Unsure of these two values, whose reading and places are on the following lines."""
    words = lines.following()
    words.take("marks")
    marks = take_reading(words)
    words.finish()
    words = lines.following()
    words.take("off")
    low_off = take_places(words)
    words.take("/")
    high_off = take_places(words)
    words.finish()
    return Unsure(low, high, marks, low_off, high_off)


def take_places(words):
    """The ascending places whose words come next, up to a `/` or to the end of the line; none for `-`."""
    if words.upcoming() == "-":
        words.take("-")
        return ()
    places = [words.take_number(0, MOST_WHEELS - 1)]
    while words.upcoming() not in (None, "/"):
        places.append(words.take_number(places[-1] + 1, MOST_WHEELS - 1))
    return tuple(places)


def take_choices(lines):
    """For each choice its tables, on all following lines; there is one choice at least."""
    take_choice(lines.following())
    rows, tables = [], []
    while lines.are_left():
        words = lines.following()
        if words.upcoming() == "choice":
            take_choice(words)
            rows.append(tuple(tables))
            tables = []
        else:
            tables.append(take_table(words))
    rows.append(tuple(tables))
    return tuple(rows)


def take_choice(words):
    """There must be the line of a choice."""
    words.take("choice")
    words.finish()


def take_table(words):
    """The period and the runs of a line."""
    period = words.take_number(1, BEYOND)
    words.take(":")
    runs = ()
    if words.upcoming() == "none":
        words.take("none")
    else:
        runs = take_any_runs(words)
    words.finish()
    return (period, runs)
