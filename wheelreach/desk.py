"""Desks: a meter, a follower and a shelf, to which lines are told."""

from wheelreach.bounds import FARTHEST
from wheelreach.desk_answers import ANSWERS, tell_runs
from wheelreach.desk_deeds import DEEDS
from wheelreach.desk_lines import read_line
from wheelreach.errors import BadLine, Nothing, ReachError
from wheelreach.follower import MOST_RUNS, Follower
from wheelreach.lines import Lines, take_runs
from wheelreach.meters import take_meter
from wheelreach.reader import take_shelf
from wheelreach.shelf import Shelf
from wheelreach.texts import runs_text, shelf_text
from wheelreach.words import number_text

NEEDS_METER = (
    "add", "leave", "wider", "times", "numbers", "follow", "show", "exact", "blind", "next", "last", "reach", "window",
    "sure", "told", "off", "nearest")
NEEDS_FOLLOWER = ("hear", "move", "runs", "known")


class Desk:
    """A desk with a meter, a follower and a shelf; at first with none of the first two, and with an empty shelf."""

    def __init__(self):
        self._held = (None, None, Shelf())
        self._past = ()
        self._ahead = ()

    @staticmethod
    def read(text):
        """The Desk with this text, and nothing to take back."""
        lines = Lines(text)
        meter = take_meter_line(lines)
        follower = take_follower(lines)
        shelf = take_shelf(lines)
        lines.finish()
        desk = Desk()
        desk._held = (meter, follower, shelf)
        return desk

    def __len__(self):
        return len(self._past)

    def __eq__(self, other):
        return isinstance(other, Desk) and self._held == other._held

    def __call__(self, line):
        return self.say(line)

    def say(self, line):
        """Does what a line tells and returns the answer."""
        word, rest = read_line(line)
        try:
            return self._answer(word, rest)
        except ReachError as why:
            name = why.__class__.__name__
            return f"refused {name}"

    def _answer(self, word, rest):
        """Does what the words of a line tell and returns the answer, or raises why it is refused."""
        need_held(self._held, word)
        if word == "undo":
            return self._take_back()
        if word == "redo":
            return self._do_again()
        if word in ANSWERS:
            ask = ANSWERS[word]
            return ask(self._held, *rest)
        deed = DEEDS[word]
        held = deed(self._held, *rest)
        self._past = (*self._past, self._held)
        self._ahead = ()
        self._held = held
        return tell_runs(held) if word in ("hear", "move") else "ok"

    def _take_back(self):
        """Takes back the last line that was done and not taken back."""
        if not self._past:
            return "nothing"
        self._ahead = (*self._ahead, self._held)
        self._held = self._past[-1]
        self._past = self._past[:-1]
        return "ok"

    def _do_again(self):
        """Does the line again that was taken back last."""
        if not self._ahead:
            return "nothing"
        self._past = (*self._past, self._held)
        self._held = self._ahead[-1]
        self._ahead = self._ahead[:-1]
        return "ok"

    def run(self, *lines):
        """The answers to several lines; none of them is done if one is no line."""
        held, past, ahead = self._held, self._past, self._ahead
        answers = []
        for line in lines:
            try:
                answers.append(self.say(line))
            except BadLine:
                self._held, self._past, self._ahead = held, past, ahead
                raise
        return answers

    def meter_now(self):
        """The meter; None without one."""
        return self._held[0]

    def follower_now(self):
        """A twin of the follower; None without one."""
        follower = self._held[1]
        return None if follower is None else follower.twin()

    def shelf_now(self):
        """A twin of the shelf."""
        return self._held[2].twin()

    def text_now(self):
        """The text of all that stands on the desk."""
        meter, follower, shelf = self._held
        rows = ["meter -" if meter is None else f"meter {str(meter)}"]
        if follower is None:
            rows.append("follower -")
        else:
            rows.append(f"follower {number_text(follower.reach)} : {runs_text(follower.runs)}")
            rows.append(f"by {str(follower.meter)}")
        rows.append(shelf_text(shelf))
        return "\n".join(rows)


def need_held(held, word):
    """Raises Nothing if the meter or the follower is lacking that a line with this first word needs."""
    if word in NEEDS_METER and held[0] is None:
        raise Nothing()
    if word in NEEDS_FOLLOWER and held[1] is None:
        raise Nothing()


def take_meter_line(lines):
    """The meter of the next line; None for `-`."""
    words = lines.following()
    words.take("meter")
    meter = None
    if words.upcoming() == "-":
        words.take("-")
    else:
        meter = take_meter(words)
    words.finish()
    return meter


def take_follower(lines):
    """The follower of the next line and of the one with its meter; None for `-`."""
    words = lines.following()
    words.take("follower")
    if words.upcoming() == "-":
        words.take("-")
        words.finish()
        return None
    reach = words.take_number(1, FARTHEST)
    words.take(":")
    runs = take_runs(words, reach - 1, MOST_RUNS)
    words.finish()
    words = lines.following()
    words.take("by")
    meter = take_meter(words)
    words.finish()
    return Follower.begun(meter, reach, runs)
