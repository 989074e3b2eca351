"""A look at a Join: whether its tables are right, by remainders and by sums, without joining anything."""

from wheelreach.joins import Join, need_lots
from wheelreach.numbers import is_from, multiple
from wheelreach.rounds import ALL, has_run, is_run, size_of
from wheelreach.sums import shared_by


def shows_join(value, *lots):
    """Whether any value is the Join of these lots."""
    need_lots(lots)
    return isinstance(value, Join) and are_tables(value.tables, lots)


def are_tables(tables, lots):
    """Whether any value is the tuple of the tables of the join of these lots."""
    if not isinstance(tables, tuple) or len(tables) != len(lots):
        return False
    ahead = ALL
    for table, lot in zip(tables, lots):
        if not is_table(table) or not is_complete(table, ahead, (lot.period, lot.runs)):
            return False
        ahead = table
    return True


def is_table(value):
    """Whether any value has the form of a table."""
    if not isinstance(value, tuple) or len(value) != 2:
        return False
    period, runs = value
    if not is_from(period, 1) or not isinstance(runs, tuple):
        return False
    for run in runs:
        if not is_run(run):
            return False
    return are_apart(period, runs)


def are_apart(period, runs):
    """Whether runs are maximal, ascend and begin from 0 to the period - 1, or are those of all integers."""
    if not runs or runs == ((0, period - 1),):
        return True
    for at in range(1, len(runs)):
        if runs[at][0] < runs[at - 1][1] + 2:
            return False
    return runs[0][0] >= 0 and runs[-1][0] < period and runs[-1][1] <= runs[0][0] + period - 2


def is_complete(table, ahead, lot):
    """Whether a table has just what lies in both, the table ahead of it and the lot.

    Its runs lie in both, and have as many members as both share: so nothing is left out.
    """
    period, runs = table
    if period != multiple(ahead[0], lot[0]):
        return False
    for run in runs:
        if not has_run(ahead, run) or not has_run(lot, run):
            return False
    return size_of(runs) == shared_by(ahead, lot)
