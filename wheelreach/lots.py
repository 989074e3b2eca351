"""Lots: sets of integers that come again after a period."""

from wheelreach.bounds import need_from, need_whole
from wheelreach.errors import BadLot, BadText, NoMember, NoPlace, TooMany
from wheelreach.meets import crossings, meet
from wheelreach.numbers import common, is_between, is_from, is_whole
from wheelreach.rounds import MOST_RUNS, end_behind, how_many_below, is_full, is_run, last_member, least_form
from wheelreach.rounds import member_at, next_member, rest_of, round_of, size_of
from wheelreach.words import Words, number_text, run_words

MOST_FACTOR = 10 ** 30
MOST_PERIOD = 10 ** 50 * 10 ** 50


class Lot:
    """All integers that leave the same remainder by the period as a member of one of the runs; in least form."""

    MOST = 2000

    def __init__(self, period, *runs):
        if not is_from(period, 1):
            raise BadLot("period")
        for run in runs:
            if not is_run(run):
                raise BadLot("run")
        found = round_of(period, runs)
        if len(found) > MOST_RUNS:
            raise TooMany("runs", MOST_RUNS)
        least = least_form((period, found))
        self.period = least[0]
        self.runs = least[1]
        self.size = size_of(least[1])

    @staticmethod
    def every():
        """All integers."""
        return Lot(1, (0, 0))

    @staticmethod
    def none():
        """No integers."""
        return Lot(1)

    @staticmethod
    def around(period, play):
        """What is at most play from a multiple of the period."""
        if not is_from(period, 1):
            raise BadLot("period")
        if not is_from(play, 0):
            raise BadLot("play")
        return Lot(period, (-play, play))

    @staticmethod
    def multiples(n):
        """All multiples of n."""
        return Lot(n, (0, 0))

    @staticmethod
    def read(text):
        """The Lot with this text."""
        words = Words(text)
        lot = take_lot(words)
        words.finish()
        if str(lot) != text:
            # all words could stand, so it is the period alone that is not the least one
            raise BadText(0, 1)
        return lot

    def __len__(self):
        return len(self.runs)

    def __iter__(self):
        return iter(self.runs)

    def __getitem__(self, at):
        if is_whole(at) and not 0 <= at < len(self.runs):
            raise NoPlace(at)
        return self.runs[at]

    def __eq__(self, other):
        return isinstance(other, Lot) and self.period == other.period and self.runs == other.runs

    def __str__(self):
        if is_full(form_of(self)):
            return "every"
        if not self.runs:
            return "none"
        return f"modulo {number_text(self.period)} : {run_words(self.runs)}"

    def __contains__(self, value):
        return is_whole(value) and end_behind(form_of(self), value) is not None

    def __and__(self, other):
        if not isinstance(other, Lot):
            raise BadLot("other")
        period, runs = meet(form_of(self), form_of(other))
        return Lot(period, *runs)

    def __or__(self, other):
        if not isinstance(other, Lot):
            raise BadLot("other")
        # the runs of what lies in one of both are as many as the gaps between them
        return ~(~self & ~other)

    def __sub__(self, other):
        if is_whole(other):
            return self + -other
        return self & other_than(other)

    def __invert__(self):
        period, runs = rest_of(form_of(self))
        return Lot(period, *runs)

    def __add__(self, other):
        if not is_whole(other):
            raise BadLot("other")
        runs = [(begin + other, end + other) for begin, end in self.runs]
        return Lot(self.period, *runs)

    def __neg__(self):
        runs = [(-end, -begin) for begin, end in self.runs]
        return Lot(self.period, *runs)

    def __mul__(self, n):
        if not is_between(n, 1, MOST_FACTOR):
            raise BadLot("other")
        if n == 1:
            return self
        if self.size > MOST_RUNS:
            raise TooMany("runs", MOST_RUNS)
        runs = [(n * x, n * x) for begin, end in self.runs for x in range(begin, end + 1)]
        return Lot(self.period * n, *runs)

    def __floordiv__(self, n):
        if not is_between(n, 1, MOST_FACTOR):
            raise BadLot("other")
        if self.size in (0, self.period):
            return self
        shared = common(n, self.period)
        turns = n // shared
        if len(self.runs) * turns > MOST_RUNS:
            raise TooMany("runs", MOST_RUNS)
        runs = []
        for turn in range(turns):
            for begin, end in self.runs:
                low = -(-(begin + turn * self.period) // n)
                high = (end + turn * self.period) // n
                if low <= high:
                    runs.append((low, high))
        return Lot(self.period // shared, *runs)

    def __mod__(self, n):
        if not is_between(n, 1, MOST_FACTOR):
            raise BadLot("other")
        return Lot(common(n, self.period), *self.runs)

    def is_within(self, other):
        """Whether each member is one of the other lot."""
        if not isinstance(other, Lot):
            raise BadLot("other")
        return not crossings(form_of(self), form_of(~other), 1)

    def at_least(self, n):
        """The nearest member from n on, up."""
        need_whole(n)
        need_member(self)
        return next_member(form_of(self), n)

    def at_most(self, n):
        """The nearest member from n on, down."""
        need_whole(n)
        need_member(self)
        return last_member(form_of(self), n)

    def how_many(self, low, high):
        """How many members lie from low to high."""
        need_whole(low)
        need_whole(high)
        if high < low:
            return 0
        return how_many_below(form_of(self), high + 1) - how_many_below(form_of(self), low)

    def nth(self, index, begin=0):
        """The member with this index among those from begin on, ascending."""
        need_from(index, 0)
        need_whole(begin)
        need_member(self)
        return member_at(form_of(self), how_many_below(form_of(self), begin) + index)

    def each(self, begin=0):
        """The members from begin on, ascending."""
        need_whole(begin)
        number = begin
        while self.runs:
            number = next_member(form_of(self), number)
            yield number
            number = number + 1

    def runs_between(self, low, high):
        """The maximal runs of the members from low to high, ascending."""
        need_whole(low)
        need_whole(high)
        if is_full(form_of(self)) and low <= high:
            yield (low, high)
            return
        begin = low
        while self.runs:
            begin = next_member(form_of(self), begin)
            if begin > high:
                return
            end = end_behind(form_of(self), begin)
            yield (begin, min(end, high))
            begin = end + 1


def form_of(lot):
    """The round of a lot: its period and its runs."""
    return (lot.period, lot.runs)


def other_than(lot):
    """What is not in the lot."""
    if not isinstance(lot, Lot):
        raise BadLot("other")
    return ~lot


def need_member(lot):
    """Raises NoMember for a lot without members."""
    if not lot.runs:
        raise NoMember()


def take_lot(words):
    """The Lot whose words come next; its period may be another one than the least."""
    first = words.take("every", "none", "modulo")
    if first == "every":
        return Lot.every()
    if first == "none":
        return Lot.none()
    period = words.take_number(2, MOST_PERIOD)
    words.take(":")
    runs = []
    least = 0
    while True:
        begin = words.take_number(least, period - 1)
        words.take("to")
        end = words.take_number(begin, (runs[0][0] if runs else begin) + period - 2)
        runs.append((begin, end))
        if len(runs) == MOST_RUNS or words.upcoming() is None:
            return Lot(period, *runs)
        words.take(",")
        least = end + 2
