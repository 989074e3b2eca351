"""windows.py: least_window and windows against all blind differences tried one by one."""

import math
import unittest
from itertools import islice

from helpers import ANY, Case, dice, is_int, others
from meter_helpers import random_meter
from wheelreach import gaps
from wheelreach.errors import BadMeter, BadNumber, TooMany
from wheelreach.meters import Meter
from wheelreach.reaches import reach_of, sure
from wheelreach.wheels import Even, Exact, Grid, Lagging, Wheel
from wheelreach.windows import least_window, windows

MOST = 10 ** 100
TOO_MANY = TooMany("runs", 2000)
PAIR = Meter(Even(100, 1), Even(90, 1))
SHORT = Meter(Even(10, 1), Even(7, 1))
ALL_BLIND = Meter(Wheel(10, 1, 1), Wheel(20, 4, 4), lost=1)


def in_bounds(low):
    return lambda value: is_int(value) and low <= value <= MOST


def pairs_of(meter, most, begin):
    """What windows tells, by is_blind of each difference."""
    rows = []
    for window in range(begin, most + 1):
        if meter.is_blind(window) and not meter.is_blind(window + 1):
            reach = window + 1
            while not meter.is_blind(reach):
                reach += 1
            rows.append((window, reach))
    return rows


class Examples(Case):
    def test_examples(self):
        self.same([least_window(PAIR, 898), least_window(PAIR, 899), list(windows(PAIR, 2000))],
                  [2, 898, [(2, 898), (902, 1798), (1802, 2698)]])
        self.same([list(windows(SHORT, 20)), list(windows(SHORT, 12, begin=3)), list(windows(SHORT, 8, 3))],
                  [[(2, 8), (9, 12), (12, 19)], [(9, 12), (12, 19)], []])
        self.same(list(windows(ALL_BLIND, MOST)), [])
        self.raises(BadNumber(0), least_window, PAIR, 0)


class Small(Case):
    def setUp(self):
        rng = dice(101)
        self.meters = [random_meter(rng, 4, 12) for _ in range(200)] + [random_meter(rng, 8, 6) for _ in range(20)]
        self.meters += [PAIR, SHORT, ALL_BLIND, Meter(Even(5, 2)), Meter(Even(5, 2), Exact(7)), Meter(Exact(5), lost=1),
                        Meter(Exact(5), Grid(3), lost=1), Meter(Grid(6), Grid(4), off=3), Meter(Even(10, 2), more=1)]

    def test_least_window(self):
        for meter in self.meters:
            greatest = 0
            for reach in range(1, 80):
                self.same(least_window(meter, reach), greatest)
                if meter.is_blind(reach):
                    greatest = reach
        self.same(least_window(reach=898, meter=PAIR), 2)

    def test_least_window_is_the_least_for_which_it_is_sure(self):
        for meter in self.meters[::5]:
            for reach in (1, 2, 7, 30, 1000, MOST):
                window = least_window(meter, reach)
                self.same(bool(sure(meter, reach, window)), True)
                if window > 0:
                    self.same(bool(sure(meter, reach, window - 1)), False)

    def test_windows(self):
        rng = dice(102)
        for meter in self.meters:
            whole = math.lcm(*[wheel.period for wheel in meter])
            for _ in range(3):
                begin = rng.randint(0, 60)
                most = rng.randint(0, min(2 * whole, 150))
                self.same(list(windows(meter, most, begin)), pairs_of(meter, most, begin), (str(meter), most, begin))
            self.same(list(windows(meter, 40)), pairs_of(meter, 40, 0))

    def test_begin_on_between_and_beyond(self):
        # the blind differences of SHORT are 0 to 2, 8 to 9, 12, 19 to 22
        wanted = pairs_of(SHORT, 100, 0)
        for begin in range(110):
            self.same(list(windows(SHORT, 100, begin)), [row for row in wanted if row[0] >= begin])
        for most in range(40):
            self.same(list(windows(SHORT, most)), [row for row in wanted if row[0] <= most])
            self.same(list(windows(SHORT, most, most)), [row for row in wanted if row[0] == most])
            self.same(list(windows(SHORT, most, most + 1)), [])
        self.same(list(windows(begin=3, most=12, meter=SHORT)), [(9, 12), (12, 19)])

    def test_each_window_has_its_reach(self):
        for meter in self.meters[::3]:
            rows = list(windows(meter, 60))
            for window, reach in rows:
                self.same(reach, reach_of(meter, window))
            for window in range(60):
                below = [reach for least, reach in rows if least <= window]
                if below and not meter.is_blind(window + 1) and not meter.is_blind(window):
                    self.same(reach_of(meter, window), max(below))

    def test_all_blind(self):
        for meter in (ALL_BLIND, Meter(Even(5, 2)), Meter(Exact(5), lost=1), Meter(Exact(2), Exact(3), off=1),
                      Meter(Wheel(5 * 10 ** 11, 5 * 10 ** 10, 5 * 10 ** 10), Even(10 ** 12, 2 * 10 ** 11), lost=1),
                      Meter(Wheel(10, 1, 1), Exact(10 ** 12 - 11), Wheel(20, 4, 4), lost=2),
                      Meter(Exact(10 ** 12 - 11), Wheel(20, 4, 4), Exact(10 ** 12 - 39), Even(10, 1), off=1, more=1)):
            for begin in (0, 1, 7, MOST - 5, MOST):
                self.same(list(windows(meter, MOST, begin)), [])
            self.same(least_window(meter, MOST), MOST - 1)
            self.same(least_window(meter, 1), 0)
        # with one wheel that is trusted, no two neighbours are blind
        self.same(list(islice(windows(Meter(Grid(2), Exact(5), lost=1), MOST), 3)), [(0, 2), (2, 4), (4, 6)])

    def test_never_parts(self):
        for meter in (Meter(Even(9, 4), Exact(7)), Meter(Exact(7), Even(9, 4)), Meter(Exact(7), Lagging(3, 9), Exact(7))):
            self.same(list(windows(meter, 20)), [(0, 7), (7, 14), (14, 21)])
        self.same(list(windows(Meter(Even(10, 2), Even(9, 4)), 30)), [(4, 6), (14, 16), (24, 26)])
        self.same(list(windows(Meter(Even(10, 2), Even(9, 4), lost=1), MOST)), [])


class Great(Case):
    def test_far_windows(self):
        base = MOST // 900 * 900
        self.same(list(windows(PAIR, MOST, MOST - 1000)),
                  [(d, d + 896) for d in range(base - 1798, base + 900, 900) if MOST - 1000 <= d <= MOST])
        self.same(list(windows(PAIR, base + 2, base - 2)), [(base + 2, base + 898)])
        self.same(list(windows(PAIR, base + 1, base - 2)), [])
        self.same(list(windows(Meter(Exact(7)), MOST, MOST - 7)), [(MOST - MOST % 7, MOST - MOST % 7 + 7)])
        self.same(list(windows(Meter(Exact(2)), MOST, MOST)), [(MOST, MOST + 2)])
        self.same(least_window(PAIR, MOST), max(d for d in range(MOST - 900, MOST) if PAIR.is_blind(d)))
        self.same(least_window(Meter(Exact(2)), MOST), MOST - 2)

    def test_one_by_one(self):
        rows = windows(PAIR, MOST)
        self.same([next(rows), next(rows)], [(2, 898), (902, 1798)])
        self.same(list(islice(windows(Meter(Exact(10 ** 12), Exact(10 ** 12 - 1)), MOST), 2)),
                  [(0, 10 ** 24 - 10 ** 12), (10 ** 24 - 10 ** 12, 2 * (10 ** 24 - 10 ** 12))])
        # the last pair is told although no window behind it is
        rows = windows(PAIR, 2)
        self.same(next(rows), (2, 898))
        self.same(next(rows, None), None)

    def test_long_runs_of_blind_differences(self):
        # the wheels part 3 of 1000 and 4 of 997 differences: a run has many runs of each
        meter = Meter(Wheel(1000, 498, 0), Wheel(997, 496, 0), lost=1)
        wanted = pairs_of(meter, 4 * 10 ** 5, 0)
        self.assertEqual(len(wanted), 3)
        self.assertGreater(wanted[1][0] - wanted[0][1], 10 ** 5)
        for patience in (0, 1, 50, gaps.PATIENCE):
            with_patience(patience, lambda: self.same(list(windows(meter, 4 * 10 ** 5)), wanted))

    def test_a_run_of_blind_differences_longer_than_all_that_can_be_tried(self):
        # each wheel parts the odd multiples of half its period alone
        halves = [499999999999, 499999999997, 499999999993, 499999999987]
        meter = Meter(*[Wheel(2 * half, half - 1, 0) for half in halves], lost=3)
        whole = math.lcm(*halves)
        self.same(list(islice(windows(meter, MOST), 2)), [(whole - 1, whole + 1), (3 * whole - 1, 3 * whole + 1)])
        self.same(list(windows(meter, whole - 1, whole - 1)), [(whole - 1, whole + 1)])
        self.same(list(windows(meter, whole - 2)), [])

    def test_what_two_wheels_part_meets_very_late(self):
        far = 10 ** 12
        # each wheel parts 3001 and 2999 differences in its middle; the second one comes 28 earlier each time
        meter = Meter(Wheel(far - 11, (far - 11 - 3001) // 2, 0), Wheel(far - 39, (far - 39 - 2999) // 2, 0), lost=1)
        rows = list(islice(windows(meter, MOST), 600))
        for window, reach in rows:
            self.same((meter.is_blind(window), meter.is_blind(window + 1), meter.is_blind(reach - 1),
                       meter.is_blind(reach)), (True, False, False, True))
        # they meet in the middle, then no longer, until one comes round a whole period later than the other one
        late = [at for at in range(1, 600) if rows[at][0] - rows[at - 1][0] > far]
        self.same(len(late) > 0 and rows[late[0]][0] > 10 ** 22, True)
        steps = rows[late[0]][0] // (far - 11)
        for before in range(steps - 3, steps):
            middle = before * (far - 11) + (far - 11) // 2
            self.same([d for d in range(middle - 1600, middle + 1600) if len(meter.parting(d)) > 1], [])

    def test_small_meters_without_patience(self):
        rng = dice(103)
        for _ in range(200):
            meter = random_meter(rng, 4, 9)
            wanted = pairs_of(meter, 60, 0)
            for patience in (0, 2):
                with_patience(patience, lambda: self.same(list(windows(meter, 60)), wanted))
        for meter in (Meter(Wheel(101, 47, 0), Wheel(97, 46, 0), lost=1),
                      Meter(Wheel(101, 47, 0), Wheel(97, 46, 0), Wheel(20, 9, 0), lost=1)):
            wanted = pairs_of(meter, 10 ** 4, 0)
            for most_met in (0, 1, 8, 9):
                for patience in (0, 5):
                    with_patience(patience, lambda: self.same(list(windows(meter, 10 ** 4)), wanted), most_met)


def with_patience(patience, work, most_met=gaps.MOST_MET):
    kept = gaps.PATIENCE, gaps.MOST_MET
    gaps.PATIENCE, gaps.MOST_MET = patience, most_met
    try:
        work()
    finally:
        gaps.PATIENCE, gaps.MOST_MET = kept


class Wrong(Case):
    def test_no_meter(self):
        for value in [*ANY, Exact(5)]:
            for number in (None, 0, 5):
                self.raises(BadMeter("meter"), least_window, value, number)
                self.raises(BadMeter("meter"), windows, value, number)
                self.raises(BadMeter("meter"), windows, value, number, None)

    def test_wrong_numbers(self):
        heavy = Meter(Even(10 ** 12, 500), Even(10 ** 12 - 1, 500))
        for meter in (PAIR, heavy, ALL_BLIND):
            for value in others(in_bounds(1)) + [MOST + 1, 0]:
                self.raises(BadNumber(value), least_window, meter, value)
            for value in others(in_bounds(0)) + [MOST + 1, -1]:
                self.raises(BadNumber(value), windows, meter, value)
                self.raises(BadNumber(value), windows, meter, value, None)
                self.raises(BadNumber(value), windows, meter, value, begin=-1)
                for most in (0, 7, MOST):
                    self.raises(BadNumber(value), windows, meter, most, value)
                    self.raises(BadNumber(value), windows, meter, most, begin=value)

    def test_heavy(self):
        heavy, just = Meter(Wheel(10 ** 12, 1000, 0), Exact(10 ** 12 - 1)), Meter(Wheel(10 ** 12, 999, 0),
                                                                                 Exact(10 ** 12 - 1))
        for reach in (1, 7, MOST):
            self.raises(TOO_MANY, least_window, heavy, reach)
            self.same(least_window(just, reach) < reach, True)
        for most, begin in ((0, 0), (0, 1), (MOST, 0), (MOST, MOST)):
            self.raises(TOO_MANY, windows, heavy, most, begin)
        self.same(next(windows(just, MOST)), (0, 10 ** 12 - 1))


if __name__ == "__main__":
    unittest.main()
