"""Texts of readings, runs, shelves and of what tells whether a meter is sure."""

from wheelreach.errors import BadMark, BadShelf, BadValue
from wheelreach.meters import MOST_WHEELS
from wheelreach.numbers import is_from
from wheelreach.reaches import Sure, Unsure
from wheelreach.shelf import Shelf
from wheelreach.words import mark_words, number_text, run_words


def reading_text(marks):
    """The marks with single spaces between, `-` for a lost wheel."""
    if not isinstance(marks, (list, tuple)) or not 1 <= len(marks) <= MOST_WHEELS:
        raise BadMark(None)
    for at, mark in enumerate(marks):
        if mark is not None and not is_from(mark, 0):
            raise BadMark(at)
    return mark_words(marks)


def runs_text(runs):
    """The runs with a comma between two of them; `none` without runs."""
    return run_words(runs) if runs else "none"


def shelf_text(shelf):
    """For each name a line with its price and its wheel; `-` without names."""
    if not isinstance(shelf, Shelf):
        raise BadShelf("shelf")
    rows = []
    for name in shelf:
        wheel, price = shelf[name]
        rows.append(f"{name} {price} : {str(wheel)}")
    return "\n".join(rows) if rows else "-"


def places_text(places):
    """The places with single spaces between; `-` for none."""
    return " ".join([str(place) for place in places]) if places else "-"


def verdict_text(value):
    """The lines of a Sure or of an Unsure."""
    if isinstance(value, Sure):
        return "\n".join(["sure", *sure_lines(value)])
    if not isinstance(value, Unsure):
        raise BadValue(value)
    head = f"unsure {number_text(value.low)} {number_text(value.high)}"
    off = f"off {places_text(value.low_off)} / {places_text(value.high_off)}"
    return "\n".join([head, f"marks {mark_words(value.marks)}", off])


def sure_lines(paper):
    """The lines of the choices of a Sure."""
    rows = []
    for tables in paper.tables:
        rows.append("choice")
        for period, runs in tables:
            rows.append(f"{number_text(period)} : {runs_text(runs)}")
    return rows
