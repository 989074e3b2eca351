"""What the tests share: any values, strict comparison, and errors with their fields."""

import random
import types
import unittest

from wheelreach.joins import Join
from wheelreach.lots import Lot


def plain(value):
    return value


ANY = [
    None, True, False, 0, 1, 2, 3, -1, -2, 7, 10 ** 12, 10 ** 12 + 1, 10 ** 120 - 1, 1 - 10 ** 120,
    "", " ", "1", "x", "every", "a\nb", "A" * 3000,
    (), (0,), (0, 0), (1, 0), (0, 1, 2), (True, 2), (0, True), (0, None), ("0", 1), ((0, 0), (1, 1)),
    [], [0], [0, 0], [1, 2], [(0, 0)], {}, {"a": 1}, {0: 0}, {0: 0, 1: 1},
    plain, lambda: 1, len, Lot(5, (0, 1)), Lot.none(), Lot.every(), Join(()), Join(7),
]


def is_int(value):
    return isinstance(value, int) and not isinstance(value, bool)


def others(test):
    """The values of ANY for which the test does not hold."""
    return [value for value in ANY if not test(value)]


def alike(one, other):
    """Whether both are equal, kinds counted everywhere."""
    if type(one) is not type(other):
        return False
    if isinstance(one, (list, tuple)):
        return len(one) == len(other) and all(alike(x, y) for x, y in zip(one, other))
    return one is other or one == other


def shown(value):
    """A value for a message; Python refuses to show very great integers."""
    try:
        return repr(value)[:1500]
    except ValueError:
        return "what is too great to be shown"


def fields_of(error):
    return dict(vars(error))


class Case(unittest.TestCase):
    """A TestCase that compares kinds and errors strictly."""

    def same(self, got, wanted, about=None):
        if not alike(got, wanted):
            self.fail(f"{shown(about)}: got {shown(got)}, wanted {shown(wanted)}")

    def raises(self, wanted, work, *args, **more):
        """work raises just this error; a generator at the latest when its first item is requested."""
        try:
            got = work(*args, **more)
            if isinstance(got, types.GeneratorType):
                got = next(got, None)
        except ValueError as error:
            self.assertIs(type(error), type(wanted), f"{shown(error)} for {shown(args)} {shown(more)}")
            mine, theirs = fields_of(error), fields_of(wanted)
            self.assertEqual(list(mine), list(theirs))
            for name in mine:
                self.same(mine[name], theirs[name], (name, args, more))
            return
        self.fail(f"{shown(got)} was returned for {shown(args)} {shown(more)}, no {shown(wanted)} was raised")


def dice(seed):
    return random.Random(seed)


def members_of(lot, low, high):
    """The integers from low to high that leave the same remainder as a member of a run, one by one."""
    inside = set()
    for begin, end in lot.runs:
        for x in range(begin, min(end, begin + lot.period) + 1):
            inside.add(x % lot.period)
    return [x for x in range(low, high + 1) if x % lot.period in inside]


def remainders(period, runs):
    """The remainders by a period of all members of runs, as a set."""
    inside = set()
    for begin, end in runs:
        if end - begin + 1 >= period:
            return set(range(period))
        inside |= {x % period for x in range(begin, end + 1)}
    return inside


def form_of_set(period, inside):
    """(period, runs) of the maximal runs that begin from 0 to period - 1, found one by one."""
    if len(inside) == period:
        return (period, ((0, period - 1),))
    runs = []
    for begin in range(period):
        if begin in inside and (begin - 1) % period not in inside:
            end = begin
            while (end + 1) % period in inside:
                end += 1
            runs.append((begin, end))
    return (period, tuple(runs))


def least_of_set(period, inside):
    """(period, runs) in least form, found by trying each divisor of the period."""
    if not inside:
        return (1, ())
    for least in range(1, period + 1):
        if period % least == 0 and all((x + least) % period in inside for x in inside):
            return form_of_set(least, {x % least for x in inside})
    raise AssertionError


def random_runs(rng, period, many):
    runs = []
    for _ in range(rng.randint(0, many)):
        begin = rng.randint(-3 * period, 3 * period)
        runs.append((begin, begin + rng.choice([0, 0, 1, 2, rng.randint(0, 2 * period)])))
    return runs


def random_lot(rng, most=30, many=4):
    period = rng.randint(1, most)
    return Lot(period, *random_runs(rng, period, many))


def small_lots():
    """All subsets of all rounds up to the period 6 as lots, with their period and members."""
    rows = []
    for period in range(1, 7):
        for bits in range(1 << period):
            inside = {x for x in range(period) if bits >> x & 1}
            rows.append((period, inside, Lot(period, *[(x, x) for x in sorted(inside)])))
    return rows
