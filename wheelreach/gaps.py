"""Gaps: the integers that lie outside of too many of several lots.

The next gap can stand behind very many runs of single lots. So it is sought step by step for a while only; then what
lies outside of several lots is met first, as far as that makes few runs, and two of what is left are asked at once.
"""

from wheelreach.errors import TooMany
from wheelreach.meets import meet
from wheelreach.meters import picks
from wheelreach.rounds import next_member, rest_of
from wheelreach.steps import first_in_both

PATIENCE = 2000
MOST_MET = 5000


def outer_of(lots):
    """The rounds of what lies outside of each lot, without those of lots outside of which nothing lies."""
    tables = [rest_of((lot.period, lot.runs)) for lot in lots]
    return [table for table in tables if table[1]]


def met(one, other):
    """The round of what lies in both rounds; None if it has too many runs."""
    try:
        return meet(one, other, MOST_MET)
    except TooMany:
        return None


def with_table(group, table):
    """The rounds of a group, of which the first one that lets it is met with one more round."""
    for at, other in enumerate(group):
        both = met(other, table)
        if both is not None:
            return group[:at] + [both] + group[at + 1:]
    return group + [table]


def grouped(tables):
    """Fewer rounds that have the same integers in common."""
    group = []
    for table in sorted(tables):
        group = with_table(group, table)
    # what was met may be met with another one that was too much for its parts
    return group if len(group) == len(tables) else grouped(group)


def behind_all(tables, number):
    """The same number if it lies in all rounds; otherwise one ahead of which no integer behind it does."""
    for table in tables:
        number = next_member(table, number)
    return number


def are_two_with_few_runs(tables):
    """Whether these are two rounds, of which each run can be laid beside each other one."""
    return len(tables) == 2 and len(tables[0][1]) * len(tables[1][1]) <= MOST_MET


def first_in_all(tables, low, high):
    """The least integer from low to high that lies in all rounds; None if there is none."""
    for period, runs in tables:
        if not runs:
            return None
    number, steps = low, 0
    while number is not None and number <= high:
        if steps == PATIENCE and are_two_with_few_runs(tables):
            following = first_in_both(tables[0], tables[1], number)
        else:
            following = behind_all(tables, number)
        if following == number:
            return number
        number, steps = following, steps + 1
    return None


class Gaps:
    """What lies outside of a lot that is held, or outside of more than so many of the others."""

    def __init__(self, held, others, missed):
        self.held = outer_of(held)
        self.others = outer_of(others)
        self.missed = missed
        self.groups = None

    def first(self, low, high):
        """The least of them from low to high; None if there is none."""
        outer = min([next_member(table, low) for table in self.held], default=high + 1)
        found = self.first_missed(low, min(high, outer - 1))
        if found is None and outer <= high:
            return outer
        return found

    def first_missed(self, low, high):
        """The least integer from low to high outside of too many of the others; None if there is none."""
        number = low
        for _ in range(PATIENCE):
            following = self.bound(number)
            if following is None or following > high:
                return None
            if following == number:
                return number
            number = following
        return self.first_by_groups(number, high)

    def bound(self, number):
        """The least integer from a number on that can lie outside of too many of the others; None if none can."""
        steps = sorted([next_member(table, number) for table in self.others])
        return steps[self.missed] if self.missed < len(steps) else None

    def first_by_groups(self, low, high):
        """The same as first_missed, by what lies outside of several lots at once."""
        if self.groups is None:
            self.groups = [grouped(some) for some in picks(self.others, self.missed + 1)]
        best, top = None, high
        for group in self.groups:
            found = first_in_all(group, low, top)
            if found is not None:
                best, top = found, found - 1
        return best
