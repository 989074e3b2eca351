"""Lines that are told to a desk: their words, and what these tell."""

from wheelreach.bounds import FARTHEST
from wheelreach.errors import BadLine, BadText
from wheelreach.meters import take_meter
from wheelreach.reader import take_reading
from wheelreach.wheels import take_wheel
from wheelreach.words import Words

FORMS = {
    "meter": ("METER",), "add": ("WHEEL",), "leave": ("PLACES",), "wider": ("N",), "times": ("N",),
    "numbers": ("N", "N", "N"), "follow": ("N",), "hear": ("MARKS",), "move": ("STEP", "STEP"),
    "put": ("NAME", "N", "WHEEL"), "drop": ("NAME",), "undo": (), "redo": (),
    "show": (), "shelf": (), "runs": (), "known": (), "exact": ("N",), "blind": ("N",), "next": ("N",), "last": ("N",),
    "reach": ("N",), "window": ("N",), "sure": ("N", "N"), "told": ("N", "N", "MARKS"), "off": ("N", "MARKS"),
    "nearest": ("N", "MARKS"), "choose": ("N", "N", "N", "N", "N"),
}


def read_line(line):
    """The first word of a line, and the list of what follows; raises BadLine for any value that is no line."""
    firsts = list(FORMS)
    try:
        words = Words(line)
        word = words.take(*firsts)
        rest = [take_part(words, kind) for kind in FORMS[word]]
        words.finish()
    except BadText as why:
        raise BadLine(why.word) from None
    return (word, rest)


def take_part(words, kind):
    """What the next words tell, which are of this kind."""
    if kind == "N":
        return words.take_number(0, FARTHEST)
    if kind == "STEP":
        return words.take_integer(FARTHEST)
    if kind == "NAME":
        return words.take_name()
    if kind == "PLACES":
        return take_numbers(words)
    if kind == "WHEEL":
        return take_wheel(words)
    if kind == "METER":
        return take_meter(words)
    return take_reading(words)


def take_numbers(words):
    """One or more integers, all words that follow."""
    numbers = [words.take_number(0, FARTHEST)]
    while words.upcoming() is not None:
        numbers.append(words.take_number(0, FARTHEST))
    return tuple(numbers)
