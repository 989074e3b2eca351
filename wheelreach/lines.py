"""Lines of texts: they are taken one by one, and each one word by word."""

from wheelreach.errors import BadText
from wheelreach.words import BEYOND, Words


class Lines:
    """The lines of a text, in order."""

    def __init__(self, text):
        if not isinstance(text, str):
            raise BadText(0, 0)
        self.rows = text.split("\n")
        self.done = 0

    def are_left(self):
        """Whether there is a line more."""
        return self.done < len(self.rows)

    def following(self):
        """The Words of the next line, which must not be missing."""
        if not self.are_left():
            raise BadText(self.done, 0)
        words = Words(self.rows[self.done], self.done)
        self.done = self.done + 1
        return words

    def finish(self):
        """There must be no line more."""
        if self.are_left():
            raise BadText(self.done, 0)


def take_runs(words, high, most=None):
    """The runs whose words come next: ascending, apart, from 0 to high, and at most so many, if a number is passed."""
    runs = []
    least = 0
    while True:
        begin = words.take_number(least, high)
        words.take("to")
        end = words.take_number(begin, high)
        runs.append((begin, end))
        if len(runs) == most or words.upcoming() is None:
            return tuple(runs)
        words.take(",")
        least = end + 2


def take_any_runs(words):
    """The runs whose words come next, from 0 to any integer that can stand."""
    return take_runs(words, BEYOND)
