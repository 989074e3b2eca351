"""Steps: the first integer in two rounds, also where very many runs of both do not meet ahead of it."""

from wheelreach.rounds import next_member


def first_step(step, period, low, high):
    """The least i from 0 on such that i times the step leaves a remainder from low to high; None if there is none.

    0 <= low <= high < period. A multiple of the step that passes from below low to above high sets out anew behind a
    multiple of the period: so how many periods there are is the same question, with the period as step.
    """
    rows = []
    while low > 0:
        step = step % period
        if step == 0:
            return None
        enough = -(-low // step)
        if enough * step <= high:
            return from_rows(rows, enough)
        rows.append((step, period, low))
        step, period, low, high = period, step, -high % step, -low % step
    return from_rows(rows, 0)


def from_rows(rows, found):
    """The answer to the first question, by that to the last one."""
    for step, period, low in rows[::-1]:
        found = -(-(low + found * period) // step)
    return found


def first_begin(period, begin, other_period, other_run, number):
    """The first begin, one in each period, from a number on that lies in the other run; None if none does."""
    first = number + (begin - number) % period
    low = (other_run[0] - first) % other_period
    high = low + other_run[1] - other_run[0]
    # then the first one lies in it
    if high >= other_period:
        return first
    steps = first_step(period, other_period, low, high)
    return None if steps is None else first + steps * period


def first_in_both(one, other, number):
    """The least integer from a number on that lies in two rounds, each with a run; None if there is none."""
    if next_member(one, number) == number and next_member(other, number) == number:
        return number
    best = None
    for run in one[1]:
        for other_run in other[1]:
            # what lies in both begins where a run of one of them begins
            for found in (first_begin(one[0], run[0], other[0], other_run, number),
                          first_begin(other[0], other_run[0], one[0], run, number)):
                if found is not None and (best is None or found < best):
                    best = found
    return best
