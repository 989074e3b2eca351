"""Deeds: what is done to a follower, as texts."""

from wheelreach.meters import take_meter
from wheelreach.words import Words, integer_text, mark_words


def hear_text(marks):
    """The text of a reading that was heard."""
    return f"hear {mark_words(marks)}"


def move_text(back, ahead):
    """The text of a move."""
    return f"move {integer_text(back)} {integer_text(ahead)}"


def reach_text(reach):
    """The text of another reach."""
    return f"reach {reach}"


def meter_text(meter):
    """The text of another meter."""
    return f"meter {str(meter)}"


def take_marks(words, wheels):
    """The reading whose words come next: so many marks as there are wheels."""
    marks = []
    for _ in range(wheels):
        marks.append(words.take_mark())
    return tuple(marks)


def read_deed(text, wheels):
    """The first word of the text of a deed, and the tuple of what follows; a reading has so many marks as wheels."""
    words = Words(text)
    word = words.take("hear", "move", "reach", "meter")
    if word == "hear":
        rest = (take_marks(words, wheels),)
    elif word == "move":
        back = words.take_integer()
        rest = (back, words.take_integer())
    elif word == "reach":
        rest = (words.take_whole(),)
    else:
        rest = (take_meter(words),)
    words.finish()
    return (word, rest)
