"""Rounds: a period and its runs, as lots and tables have them.

The runs are maximal, ascend, and begin from 0 to the period - 1; the last one may end beyond.
A round of all integers has the one run from 0 to the period - 1.
"""

from wheelreach.numbers import is_whole

MOST_RUNS = 2000
ALL = (1, ((0, 0),))


def is_run(value):
    """Whether any value is a run."""
    if not isinstance(value, tuple) or len(value) != 2:
        return False
    return is_whole(value[0]) and is_whole(value[1]) and value[0] <= value[1]


def is_full(table):
    """Whether a round has all integers."""
    period, runs = table
    return len(runs) == 1 and runs[0][1] - runs[0][0] + 1 == period


def size_of(runs):
    """How many members runs have that lie apart."""
    return sum([end - begin + 1 for begin, end in runs])


def round_of(period, runs):
    """The runs of the round of all that leaves the same remainder as a member of one of these runs."""
    rows = sorted([(begin % period, begin % period + end - begin) for begin, end in runs])
    grown = []
    for begin, end in rows:
        if grown and begin <= grown[-1][1] + 1:
            grown[-1] = (grown[-1][0], max(grown[-1][1], end))
        else:
            grown.append((begin, end))
    return closed(period, grown)


def closed(period, runs):
    """The runs of a round, of runs that lie apart but for the last one, which may reach into the next round."""
    if not runs:
        return ()
    begin, end = runs[-1]
    first = 0
    while first < len(runs) - 1 and runs[first][0] + period <= end + 1:
        end = max(end, runs[first][1] + period)
        first = first + 1
    if begin + period <= end + 1:
        return ((0, period - 1),)
    return tuple(runs[first:-1]) + ((begin, end),)


def least_form(table):
    """The same members with the least period."""
    period, runs = table
    if not runs:
        return (1, ())
    if is_full(table):
        return ALL
    many = len(runs)
    begins = [begin for begin, end in runs] + [runs[0][0] + period]
    steps = [(begins[at + 1] - begins[at], runs[at][1] - runs[at][0]) for at in range(many)]
    for part in range(1, many + 1):
        if many % part == 0 and steps[part:] + steps[:part] == steps:
            return (period // (many // part), runs[:part])
    return table


def rest_of(table):
    """The round of all that is not in a round."""
    period, runs = table
    if not runs:
        return (period, ((0, period - 1),))
    if is_full(table):
        return (period, ())
    ends = [runs[-1][1] - period] + [end for begin, end in runs]
    gaps = [(ends[at] + 1, runs[at][0] - 1) for at in range(len(runs))]
    return (period, round_of(period, gaps))


def begun(rows, place):
    """How many of the rows, which ascend, begin at the place or ahead of it."""
    low, high = 0, len(rows)
    while low < high:
        middle = (low + high) // 2
        if rows[middle][0] <= place:
            low = middle + 1
        else:
            high = middle
    return low


def end_behind(table, number):
    """The end of the run in which a number lies; None if it lies in none."""
    period, runs = table
    if not runs:
        return None
    place = number % period
    at = begun(runs, place)
    base = number - place
    if at == 0:
        # only the last run of the round ahead can reach so far
        base = base - period
    end = base + runs[at - 1][1]
    return end if end >= number else None


def has_run(table, run):
    """Whether all members of a run lie in a round."""
    if is_full(table):
        return True
    end = end_behind(table, run[0])
    return end is not None and run[1] <= end


def next_member(table, number):
    """The least member from a number on; the round has members."""
    if end_behind(table, number) is not None:
        return number
    period, runs = table
    place = number % period
    at = begun(runs, place)
    if at == len(runs):
        return number - place + period + runs[0][0]
    return number - place + runs[at][0]


def last_member(table, number):
    """The greatest member up to a number; the round has members."""
    if end_behind(table, number) is not None:
        return number
    period, runs = table
    place = number % period
    at = begun(runs, place)
    if at == 0:
        return number - place - period + runs[-1][1]
    return number - place + runs[at - 1][1]


def cut_runs(table):
    """The runs within 0 to the period - 1, where the last one is cut in two if it ends beyond."""
    period, runs = table
    if not runs or runs[-1][1] < period:
        return list(runs)
    begin, end = runs[-1]
    return [(0, end - period)] + list(runs[:-1]) + [(begin, period - 1)]


def how_many_below(table, number):
    """How many members lie from 0 to number - 1; below 0 as many less as lie from number to -1."""
    period, runs = table
    place = number % period
    many = number // period * size_of(runs)
    for begin, end in cut_runs(table):
        if begin < place:
            many = many + min(end + 1, place) - begin
    return many


def member_at(table, index):
    """The member ahead of which so many members lie from 0 on; the round has members."""
    period, runs = table
    turns, left = divmod(index, size_of(runs))
    for begin, end in cut_runs(table):
        if left <= end - begin:
            return turns * period + begin + left
        left = left - (end - begin + 1)
    return None
