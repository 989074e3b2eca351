"""Covers: what lies in at least one of several tables, the last ones of the choices of wheels."""

from wheelreach.gaps import Gaps
from wheelreach.rounds import ALL, last_member, next_member


def last_tables(rows):
    """The last table of each row of tables; that of all integers for a row without tables."""
    return [row[-1] if row else ALL for row in rows]


class Cover:
    """What lies in the last table of a row: in all lots that are held, and in all others but at most so many."""

    def __init__(self, rows, gaps):
        self.tables = [table for table in last_tables(rows) if table[1]]
        self.gaps = gaps

    def next_in(self, number):
        """The least integer from a number on that is covered; None if none is."""
        return min([next_member(table, number) for table in self.tables], default=None)

    def last_in(self, number):
        """The greatest integer up to a number that is covered; None if none is."""
        return max([last_member(table, number) for table in self.tables], default=None)

    def end_at(self, number, stop):
        """The end of the run in which a covered integer lies, or the stop, if that comes first."""
        gap = self.gaps.first(number, stop)
        return stop if gap is None else gap - 1

    def has_between(self, low, high):
        """Whether an integer from low to high is covered."""
        number = self.next_in(low)
        return number is not None and number <= high

    def runs_within(self, low, high, most):
        """At most so many of the maximal runs of what is covered from low to high."""
        runs = []
        begin = self.next_in(low)
        while begin is not None and begin <= high and len(runs) < most:
            end = self.end_at(begin, high)
            runs.append((begin, end))
            begin = self.next_in(end + 1)
        return runs


def cover_of(meter, lots, rows, missed):
    """The Cover of the rows of tables of a meter, for whose wheels there are these lots, or None for a lost one."""
    held, others = [], []
    for wheel, lot in zip(meter, lots):
        if wheel.trusted:
            held.append(lot)
        elif lot is not None:
            others.append(lot)
    return Cover(rows, Gaps(held, others, missed))
