"""reaches.py: blind differences, reaches and profiles, against all differences tried one by one."""

import math
import unittest

from helpers import ANY, Case, dice, is_int, members_of, others
from meter_helpers import blind, random_meter
from wheelreach.errors import BadMeter, BadNumber, BadValue, TooMany
from wheelreach.joins import join
from wheelreach.lots import Lot
from wheelreach.meters import Meter
from wheelreach.reaches import (
    Sure, Unsure, blind_lots, last_blind, next_blind, pair_at, profile, reach_of, sure)
from wheelreach.wheels import Even, Exact, Grid, Wheel

MOST = 10 ** 100
TOO_MANY = TooMany("runs", 2000)
PAIR = Meter(Even(100, 1), Even(90, 1))


def in_bounds(low):
    return lambda value: is_int(value) and low <= value <= MOST


class Examples(Case):
    def test_examples(self):
        self.same([reach_of(PAIR, 2), reach_of(PAIR, 1)], [898, 2])
        self.same([reach_of(PAIR.wider(k), 8) for k in range(4)], [898, 896, 94, 92])
        self.same(reach_of(Meter(Even(10, 1), Even(7, 1)), 2), 8)
        self.same([next_blind(PAIR, 2), last_blind(PAIR, 898), last_blind(PAIR, 0)], [898, 2, -1])
        self.same([str(lot) for lot in blind_lots(PAIR)], ["modulo 900 : 898 to 902"])
        found = sure(PAIR, 898, 2)
        self.same([bool(found), found.tables[0][1]], [True, (900, ((898, 902),))])
        no = sure(PAIR, 899, 2)
        self.same([bool(no), no.low, no.high, no.marks, no.low_off, no.high_off], [False, 0, 898, (99, 89), (), ()])
        four = Meter(Exact(7), Exact(9), Exact(11), Exact(13), off=1)
        self.same([four.spare, reach_of(four, 0), profile(four, 0)], [2, 63, (9009, 693, 63, 7, 1)])
        self.same(reach_of(Meter(Exact(7), Grid(2), off=1), 3), 4)
        self.raises(BadNumber(0), sure, four, 0, 0)


class Small(Case):
    def setUp(self):
        rng = dice(61)
        self.meters = [random_meter(rng, 4, 9) for _ in range(150)] + [random_meter(rng, 8, 6) for _ in range(30)]

    def blind_ones(self, meter, low, high):
        return [d for d in range(low, high + 1) if blind(meter, d)]

    def test_next_and_last(self):
        for meter in self.meters:
            whole = math.lcm(*[wheel.period for wheel in meter])
            found = self.blind_ones(meter, -whole - 60, whole + 60)
            for d in range(-50, 51, 3):
                self.same(next_blind(meter, d), min(x for x in found if x > d))
                self.same(last_blind(meter, d), max(x for x in found if x < d))
                far = whole * (10 ** 60 // whole)
                self.same(next_blind(meter, d + far), min(x for x in found if x > d) + far)
                self.same(last_blind(meter, d - far), max(x for x in found if x < d) - far)
        self.same((next_blind(after=2, meter=PAIR), last_blind(before=898, meter=PAIR)), (898, 2))

    def test_blind_lots(self):
        for meter in self.meters:
            choices = list(meter.choices())
            found = blind_lots(meter)
            self.assertIs(type(found), tuple)
            self.same(len(found), len(choices))
            for choice, lot in zip(choices, found):
                self.assertIs(type(lot), Lot)
                wanted = [d for d in range(-40, 90) if not any(meter[at].does_part(d) for at in choice)]
                self.same(members_of(lot, -40, 89), wanted)
            self.same([d for d in range(-40, 90) if any(d in lot for lot in found)], self.blind_ones(meter, -40, 89))

    def test_reach_of(self):
        for meter in self.meters:
            whole = math.lcm(*[wheel.period for wheel in meter])
            found = self.blind_ones(meter, 0, whole + 30)
            for window in range(0, 30, 2):
                self.same(reach_of(meter, window), min(d for d in found if d > window))
        self.same(reach_of(window=2, meter=PAIR), 898)

    def test_profile(self):
        for meter in self.meters[::3]:
            many = len([wheel for wheel in meter if not wheel.trusted])
            wheels = meter.wheels
            for window in (0, 1, 5, 16):
                wanted = []
                for spare in range(many + 1):
                    d = window + 1
                    while not blind(Meter(*wheels, lost=spare), d):
                        d += 1
                    wanted.append(d)
                self.same(profile(meter, window), tuple(wanted))
        self.same(profile(window=0, meter=Meter(Grid(5), Grid(7))), (35,))
        self.same(profile(Meter(Grid(5), Exact(7), off=8, lost=3), 4), (35, 5))
        eight = Meter(*[Exact(n) for n in (2, 3, 5, 7, 11, 13, 17, 19)])
        self.same(profile(eight, 0), (9699690, 510510, 30030, 2310, 210, 30, 6, 2, 1))

    def test_sure(self):
        for meter in self.meters:
            for window in (0, 1, 4, 11):
                least = reach_of(meter, window)
                for reach in sorted({1, max(1, least - 1), least, least + 1, least + 20, max(1, window), window + 1}):
                    found = sure(meter, reach, window)
                    if reach <= least:
                        nears = [wheel.near for wheel in meter]
                        wanted = tuple(join(*[nears[at] for at in choice]).tables for choice in meter.choices())
                        self.assertIs(type(found), Sure)
                        self.same(found.tables, wanted)
                    else:
                        self.assertIs(type(found), Unsure)
                        self.same((found.low, found.high, bool(found)), (0, least, False))
        self.same(bool(sure(window=2, reach=898, meter=PAIR)), True)

    def test_choices_without_wheels(self):
        for meter in (Meter(Exact(5), lost=1), Meter(Exact(5), Even(9, 2), off=1),
                      Meter(Exact(5), more=8, off=8, lost=8)):
            self.same((next_blind(meter, 7), last_blind(meter, 7), reach_of(meter, 7)), (8, 6, 8))
            self.same(blind_lots(meter), (Lot.every(),))
            self.same(sure(meter, 8, 7).tables, ((),))
            self.same(sure(meter, 1, 0).tables, ((),))
            self.same((bool(sure(meter, 9, 7)), sure(meter, 9, 7).high), (False, 8))
        self.same(next_blind(Meter(Even(5, 2)), 7), 8)
        self.same(sure(Meter(Even(5, 2)), 1, 0).tables, (((1, ((0, 0),)),),))


class Great(Case):
    def test_two_wheels_of_great_periods(self):
        rng = dice(62)
        for _ in range(60):
            shared = rng.choice([1, 2, 10, 1000, 10 ** 6])
            first = shared * rng.randint(10 ** 12 // shared // 2, 10 ** 12 // shared)
            second = shared * rng.randint(10 ** 12 // shared // 2, 10 ** 12 // shared)
            if first == second:
                continue
            plays = rng.randint(0, 40), rng.randint(0, 40)
            meter = Meter(Wheel(first, 0, plays[0]), Wheel(second, plays[1], 0))
            whole, turn = math.lcm(first, second), math.gcd(first, second)
            found = []
            # each pair of an offset from the one and from the other is one difference by the whole
            for one in range(-plays[0], plays[0] + 1):
                for other in range(-plays[1], plays[1] + 1):
                    if (one - other) % turn == 0:
                        turns = (other - one) // turn * pow(first // turn, -1, second // turn)
                        found.append((one + first * turns) % whole)
            found = sorted(found)
            rounds = [d - whole for d in found] + found + [d + whole for d in found]
            for window in (0, 10, 80, 10 ** 6, rng.randint(0, whole - 1)):
                wanted = min(d for d in rounds if d > window)
                self.same(reach_of(meter, window), wanted)
                self.same(next_blind(meter, window), wanted)
                self.same(last_blind(meter, window), max(d for d in rounds if d < window))
                far = whole * rng.randint(0, 10 ** 60)
                self.same(next_blind(meter, window + far), wanted + far)
                self.same(next_blind(meter, window - far), wanted - far)
                self.same(sure(meter, wanted + 1, window).high, wanted)
                self.same(bool(sure(meter, wanted, window)), True)

    def test_bounds(self):
        for d in (-MOST, MOST):
            self.same(next_blind(Meter(Grid(7)), d), d + 7 - d % 7)
            self.same(last_blind(Meter(Grid(7)), d), d - 1 - (d - 1) % 7)
        self.same(reach_of(Meter(Exact(7), lost=1), MOST), MOST + 1)
        self.same(profile(Meter(Exact(7)), MOST), (MOST + 7 - MOST % 7, MOST + 1))
        self.same(bool(sure(Meter(Exact(7), lost=1), MOST, MOST)), True)
        self.same(sure(Meter(Exact(7), lost=1), MOST, MOST - 2).high, MOST - 1)
        self.same(bool(sure(Meter(Exact(7), lost=1), MOST, MOST - 1)), True)


class Wrong(Case):
    def test_no_meter(self):
        for value in [*ANY, Exact(5), Sure(())]:
            for work, more in ((next_blind, 1), (last_blind, 1), (blind_lots, 0), (reach_of, 1), (profile, 1),
                               (pair_at, 1), (sure, 2)):
                self.raises(BadMeter("meter"), work, value, *[None] * more)
                self.raises(BadMeter("meter"), work, value, *[1] * more)

    def test_wrong_numbers(self):
        heavy = Meter(Even(10 ** 12, 500), Even(10 ** 12 - 1, 500))
        for meter in (PAIR, heavy, Meter(Exact(5), lost=1)):
            for value in others(in_bounds(-MOST)) + [MOST + 1, -MOST - 1]:
                self.raises(BadNumber(value), next_blind, meter, value)
                self.raises(BadNumber(value), last_blind, meter, value)
            for value in others(in_bounds(0)) + [MOST + 1, -1]:
                self.raises(BadNumber(value), reach_of, meter, value)
                self.raises(BadNumber(value), profile, meter, value)
                self.raises(BadNumber(value), sure, meter, 1, value)
                self.raises(BadNumber(value), sure, meter, MOST, value)
            for value in others(in_bounds(1)) + [MOST + 1, 0]:
                self.raises(BadNumber(value), sure, meter, value, 0)
                self.raises(BadNumber(value), sure, meter, value, None)


class Heavy(Case):
    """The near lots of an exact wheel and of a wheel with the play p have 2 p + 1 runs together."""

    def check(self, meter, heavy):
        for work in (lambda: next_blind(meter, 0), lambda: last_blind(meter, 0), lambda: blind_lots(meter),
                     lambda: reach_of(meter, 0), lambda: sure(meter, 1, 0), lambda: sure(meter, MOST, 0),
                     lambda: sure(meter, MOST, MOST)):
            if heavy:
                self.raises(TOO_MANY, work)
            else:
                work()

    def test_just_heavy(self):
        wide, fine = Wheel(10 ** 12, 1000, 0), Exact(10 ** 12 - 1)
        self.check(Meter(wide, fine), True)
        self.check(Meter(fine, wide), True)
        just = Wheel(10 ** 12, 400, 599)
        self.check(Meter(just, fine), False)
        self.same(len(sure(Meter(just, fine), 1, 0).tables[0][1][1]), 1999)
        self.check(Meter(just, fine).wider(1), True)
        self.check(Meter(Even(10 ** 12, 250), Even(10 ** 12 - 1, 250)), True)
        self.check(Meter(Even(10 ** 12, 250), Wheel(10 ** 12 - 1, 250, 249)), False)

    def test_a_choice_or_a_beginning_is_heavy(self):
        wide, fine, small = Wheel(10 ** 12, 1000, 0), Exact(10 ** 12 - 1), Exact(10)
        # the small wheel leaves a tenth of the runs, the one of the same period leaves one
        same = Exact(10 ** 12)
        self.check(Meter(wide, fine, same), True)
        self.check(Meter(wide, same, fine), False)
        self.check(Meter(same, fine, wide), False)
        self.check(Meter(wide, small, lost=1), False)
        self.check(Meter(wide, small, fine, lost=1), True)
        self.check(Meter(small, fine, wide, lost=1), True)
        self.check(Meter(small, fine, wide, lost=2), False)
        self.check(Meter(small, wide, fine, same, lost=3), False)
        self.check(Meter(Grid(3), wide, fine, same, lost=1), True)

    def test_profile(self):
        wide, fine, small = Wheel(10 ** 12, 1000, 0), Exact(10 ** 12 - 1), Exact(10)
        self.raises(TOO_MANY, profile, Meter(wide, fine), 0)
        self.raises(TOO_MANY, profile, Meter(wide, fine, lost=2), 0)
        self.raises(TOO_MANY, profile, Meter(wide, fine, small, lost=8), 0)
        self.same(profile(Meter(wide, small, lost=1), 0), (10, 1, 1))
        # heavy with one spare alone: without the wheel of the same period
        self.raises(TOO_MANY, profile, Meter(wide, Exact(10 ** 12), fine), 0)
        self.same(reach_of(Meter(wide, Exact(10 ** 12), fine), 0), 10 ** 12 * (10 ** 12 - 1))

    def test_pair_at_is_never_heavy(self):
        meter = Meter(Wheel(10 ** 12, 1000, 0), Exact(10 ** 12 - 1))
        for d in (10 ** 12 - 1, 5 * (10 ** 12 - 1), 1000 * (10 ** 12 - 1)):
            self.same((pair_at(meter, d).low, pair_at(meter, d).high), (0, d))
        self.raises(BadValue(1001 * (10 ** 12 - 1)), pair_at, meter, 1001 * (10 ** 12 - 1))


if __name__ == "__main__":
    unittest.main()
