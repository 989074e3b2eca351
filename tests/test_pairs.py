"""reaches.py: sure and pair_at against their definitions, with all readings tried."""

import unittest

from helpers import Case, dice, others, is_int
from meter_helpers import blind, fits, is_near, may_come, places_off, random_meter, readings
from wheelreach.errors import BadValue
from wheelreach.look_reaches import shows_sure
from wheelreach.meters import Meter
from wheelreach.reaches import Unsure, pair_at, sure
from wheelreach.wheels import Even, Exact, Grid

MOST = 10 ** 100


class ByDefinition(Case):
    def test_sure_with_all_readings(self):
        rng = dice(71)
        most = 20
        for _ in range(70):
            meter = random_meter(rng, 3, 5, (0, 0, 1))
            # for each distance the least reach at which a reading is shared by two values so far apart
            first = {}
            for marks in readings(meter):
                came = [x for x in range(most) if may_come(meter, marks, x)]
                fitted = [x for x in range(most) if fits(meter, marks, x)]
                for x in came:
                    for y in fitted:
                        d = abs(x - y)
                        first[d] = min(first.get(d, most), max(x, y) + 1)
            for reach in range(1, most + 1):
                greatest = max(d for d in first if first[d] <= reach)
                for window in range(most + 1):
                    self.same(bool(sure(meter, reach, window)), greatest <= window, (str(meter), reach, window))

    def test_pair_at_each_difference(self):
        rng = dice(72)
        for _ in range(150):
            meter = random_meter(rng, 5, 9)
            for d in range(1, 60):
                if blind(meter, d):
                    self.check_pair(meter, d, pair_at(meter, d))
                else:
                    self.raises(BadValue(d), pair_at, meter, d)

    def test_pairs_of_eight_wheels(self):
        rng = dice(73)
        for _ in range(150):
            meter = random_meter(rng, 8, 20, (0, 1, 1, 2, 3))
            for d in range(1, 40, 3):
                if blind(meter, d):
                    self.check_pair(meter, d, pair_at(meter, d))

    def test_great_differences(self):
        meter = Meter(Even(10 ** 12, 10 ** 11), Even(10 ** 12 - 1, 10 ** 11), Exact(7), Grid(2), off=1)
        for d in (10 ** 12, 10 ** 99, MOST, MOST - 2, 7 * 10 ** 50):
            if blind(meter, d):
                found = pair_at(meter, d)
                self.same((found.low, found.high, shows_sure(meter, MOST, d - 1, found)), (0, d, d < MOST))
        lone = Meter(Exact(5), lost=1)
        self.same((pair_at(lone, MOST).high, pair_at(d=1, meter=lone).high), (MOST, 1))

    def test_the_numbers_are_used_up(self):
        wheels = [Exact(n) for n in (5, 7, 9, 11, 13, 8)]
        for off, more, lost in ((1, 1, 1), (0, 3, 2), (2, 0, 2), (0, 0, 6), (3, 0, 0), (0, 6, 0), (1, 4, 0), (2, 1, 1)):
            spare = 2 * off + more + lost
            meter = Meter(*wheels[:spare], off=off, more=more, lost=lost)
            self.check_pair(meter, 1, pair_at(meter, 1))
            self.raises(BadValue(1), pair_at, meter + Meter(Exact(15), off=off, more=more, lost=lost), 1)

    def check_pair(self, meter, d, pair):
        self.assertIs(type(pair), Unsure)
        self.same((pair.low, pair.high, bool(pair)), (0, d, False))
        self.assertIs(type(pair.marks), tuple)
        self.same(len(pair.marks), len(meter))
        for wheel, mark in zip(meter, pair.marks):
            if mark is None:
                self.assertFalse(wheel.TRUSTED)
            else:
                self.assertTrue(is_int(mark) and 0 <= mark < wheel.period)
        self.same((pair.low_off, pair.high_off), (places_off(meter, pair.marks, 0), places_off(meter, pair.marks, d)))
        one = may_come(meter, pair.marks, 0) and fits(meter, pair.marks, d)
        other = may_come(meter, pair.marks, d) and fits(meter, pair.marks, 0)
        self.assertTrue(one or other, (str(meter), d, vars(pair)))
        self.same(shows_sure(meter, d + 1, d - 1, pair), True)

    def test_wrong_differences(self):
        meter = Meter(Even(100, 1), Even(90, 1))
        self.same([d for d in range(-3, 901) if d > 0 and blind(meter, d)], [1, 2, 898, 899, 900])
        for value in others(lambda value: is_int(value) and 1 <= value <= MOST and blind(meter, value)):
            self.raises(BadValue(value), pair_at, meter, value)
        for value in (0, -1, -900, 3, 897, 900 * 10 ** 98 + 3, 9 * 10 ** 118, MOST + 1):
            self.raises(BadValue(value), pair_at, meter, value)
        self.raises(BadValue(MOST + 1), pair_at, Meter(Exact(5), lost=1), MOST + 1)
        self.raises(BadValue(1), pair_at, Meter(Exact(5), Grid(2), lost=1), 1)
        self.same(is_near(Exact(5), 10), True)


if __name__ == "__main__":
    unittest.main()
