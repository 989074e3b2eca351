"""Followers: what is known of a value that is watched."""

from wheelreach.bounds import FARTHEST, need_from, need_whole
from wheelreach.deeds import hear_text, meter_text, move_text, reach_text, read_deed
from wheelreach.errors import BadDeed, BadFollower, BadNumber, Nothing, ReachError, TooMany, Unfit
from wheelreach.fitting import fit_of
from wheelreach.meters import Meter, need_reading
from wheelreach.numbers import is_between, is_whole
from wheelreach.rounds import is_run

MOST_RUNS = 500


class Trial:
    """A block in which a follower is used; behind it the follower is as it was, unless the block is kept."""

    def __init__(self, follower):
        self.follower = follower
        self.taken_back = follower
        self.runs_then = ()
        self.meter_then = None
        self.reach_then = None
        self.past_then = ()

    def keep(self):
        """The follower stays as it is at the end of the block."""
        # what is taken back at the end of the block is then a twin, which nobody has
        self.taken_back = self.follower.twin()

    def __enter__(self):
        self.taken_back = self.follower
        self.runs_then = self.follower.runs
        self.meter_then = self.follower._meter
        self.reach_then = self.follower._reach
        self.past_then = self.follower._past
        return self

    def __exit__(self, kind, value, trace):
        if kind is not None:
            self.taken_back = self.follower
        self.taken_back.runs = self.runs_then
        self.taken_back._meter = self.meter_then
        self.taken_back._reach = self.reach_then
        self.taken_back._past = self.past_then


class Follower:
    """All values that a watched value can have: at first any integer from 0 to reach - 1."""

    def __init__(self, meter, reach):
        need_watched(meter)
        need_far(reach)
        self.runs = ((0, reach - 1),)
        self._meter = meter
        self._reach = reach
        self._past = ()

    @staticmethod
    def begun(meter, reach, runs):
        """A Follower without deeds whose values are these."""
        follower = Follower(meter, reach)
        if not are_values(runs, reach):
            raise BadFollower("runs")
        follower.runs = runs
        return follower

    @property
    def span(self):
        """The greatest value less the least one."""
        return self.runs[-1][1] - self.runs[0][0]

    @property
    def known(self):
        """The one value; None if there are more."""
        return self.runs[0][0] if self.span == 0 else None

    @property
    def deeds(self):
        """The texts of the deeds that are not taken back."""
        return tuple([moment[0] for moment in self._past])

    @property
    def reach(self):
        """The values lie from 0 to reach - 1."""
        return self._reach

    @reach.setter
    def reach(self, value):
        """Sets it, as a deed."""
        self.set_reach(value)

    @property
    def meter(self):
        """Readings are read with it."""
        return self._meter

    @meter.setter
    def meter(self, value):
        """Sets it, as a deed."""
        self.set_meter(value)

    def __len__(self):
        return len(self.runs)

    def __iter__(self):
        return iter(self.runs)

    def __contains__(self, value):
        return is_whole(value) and any([begin <= value <= end for begin, end in self.runs])

    def __eq__(self, other):
        if not isinstance(other, Follower) or self._meter != other._meter:
            return False
        return self._reach == other._reach and self.runs == other.runs

    def __call__(self, marks):
        self.hear(marks)
        return self.span

    def is_within(self, window):
        """Whether the span is at most the window."""
        need_from(window, 0)
        return self.span <= window

    def hear(self, marks):
        """A reading: the values that it does not fit go."""
        need_reading(self._meter, marks)
        cover = fit_of(self._meter, marks)
        left = []
        for begin, end in self.runs:
            left.extend(cover.runs_within(begin, end, MOST_RUNS + 1 - len(left)))
        if len(left) > MOST_RUNS:
            raise TooMany("runs", MOST_RUNS)
        self._done(hear_text(marks), self._meter, self._reach, left)

    def move(self, back, ahead):
        """Between two readings the value changes by from -back to ahead."""
        need_whole(back)
        need_whole(ahead)
        if ahead < -back:
            raise BadNumber(ahead)
        runs = [(begin - back, end + ahead) for begin, end in self.runs]
        self._done(move_text(back, ahead), self._meter, self._reach, grown(cut(runs, self._reach)))

    def set_reach(self, reach):
        """Another reach from now on: values from it on go."""
        need_far(reach)
        runs = cut(self.runs, reach)
        if not runs:
            raise BadFollower("reach") from Unfit()
        self._done(reach_text(reach), self._meter, reach, runs)

    def set_meter(self, meter):
        """Further readings are read with another meter."""
        need_watched(meter)
        self._done(meter_text(meter), meter, self._reach, self.runs)

    def _done(self, text, meter, reach, runs):
        """Does a deed by which the follower has these; there must be a value left."""
        if not runs:
            raise Unfit()
        self._past = self._past + ((text, self._meter, self._reach, self.runs),)
        self._meter = meter
        self._reach = reach
        self.runs = tuple(runs)

    def undo(self):
        """Takes back the last deed and returns its text."""
        if not self._past:
            raise Nothing()
        text, self._meter, self._reach, self.runs = self._past[-1]
        self._past = self._past[:-1]
        return text

    def trial(self):
        """A block behind which the follower is as it was ahead of it, unless the block is kept."""
        return Trial(self)

    def tried(self, work, kept=False):
        """Calls work with the follower in such a block, and returns what it returns."""
        with self.trial() as block:
            answer = work(self)
            if kept is True:
                block.keep()
        return answer

    def replay(self, *lines):
        """Does the deeds with these texts, or none of them."""
        with self.trial() as block:
            for at, line in enumerate(lines):
                try:
                    self._do(line)
                except ReachError as why:
                    raise BadDeed(at) from why
            block.keep()

    def _do(self, line):
        """Does the deed with this text."""
        word, rest = read_deed(line, len(self._meter))
        if word == "hear":
            self.hear(*rest)
        elif word == "move":
            self.move(*rest)
        elif word == "reach":
            self.set_reach(*rest)
        else:
            self.set_meter(*rest)

    def twin(self):
        """An equal follower that has no deeds and goes its own way."""
        return Follower.begun(self._meter, self._reach, self.runs)


def need_watched(meter):
    """Raises BadFollower for any value that is no Meter."""
    if not isinstance(meter, Meter):
        raise BadFollower("meter")


def need_far(reach):
    """Raises BadFollower for any value that can be no reach."""
    if not is_between(reach, 1, FARTHEST):
        raise BadFollower("reach")


def are_values(runs, reach):
    """Whether any value is a tuple of maximal runs, ascending, that a follower can have within this reach."""
    if not isinstance(runs, tuple) or not 1 <= len(runs) <= MOST_RUNS:
        return False
    least = 0
    for run in runs:
        if not is_run(run) or run[0] < least:
            return False
        least = run[1] + 2
    return runs[-1][1] < reach


def cut(runs, reach):
    """What lies of the runs from 0 to reach - 1."""
    return [(max(begin, 0), min(end, reach - 1)) for begin, end in runs if end >= 0 and begin < reach]


def grown(runs):
    """The maximal runs of the members of runs that ascend by their begins and by their ends."""
    found = []
    for begin, end in runs:
        if found and begin <= found[-1][1] + 1:
            found[-1] = (found[-1][0], end)
        else:
            found.append((begin, end))
    return found
