"""stairs.py: stairs and greatest_slip, against the meters that are wider by each k."""

import unittest
from itertools import islice

from helpers import ANY, Case, dice, is_int, others
from meter_helpers import random_meter
from wheelreach.errors import BadMeter, BadNumber, BadWheel, TooMany
from wheelreach.meters import Meter
from wheelreach.reaches import Sure, Unsure, reach_of, sure
from wheelreach.stairs import Slip, greatest_slip, stairs
from wheelreach.wheels import Even, Exact, Grid, Lagging, Wheel

MOST = 10 ** 100
FAR = 10 ** 12
TOO_MANY = TooMany("runs", 2000)
PAIR = Meter(Even(100, 1), Even(90, 1))
HEAVY = Meter(Wheel(FAR, 1000, 0), Exact(FAR - 1))


def late_heavy(k):
    """A meter that becomes heavy with k more, and is sure for the reach 10 ** 11 and the window 10 ** 7 before."""
    # with k more the plays are 2 k + p and 2 k: they have 8 k + 2 p + 1 runs in common
    return Meter(Wheel(FAR, 1000 - 4 * k, 0), Exact(FAR - 1))


class Examples(Case):
    def test_examples(self):
        self.same([list(stairs(PAIR, 8, 3)), list(stairs(Meter(Exact(9), Grid(2)), 0, 2))],
                  [[898, 896, 94, 92], [18, 2, 2]])
        found = greatest_slip(PAIR, 896, 8, 10)
        self.same([found.k, bool(found), found.certificate.tables[0][1], found.counterexample.high],
                  [1, True, (900, ((896, 904),)), 94])
        few, none = greatest_slip(PAIR, 90, 8, 2), greatest_slip(PAIR, 899, 8, 10)
        self.same([few.k, few.counterexample, none.k, none.certificate, bool(none)], [2, None, -1, None, False])
        self.raises(BadNumber(61), greatest_slip, PAIR, 90, 8, 61)


class Stairs(Case):
    def test_each_step(self):
        rng = dice(121)
        for _ in range(120):
            meter = random_meter(rng, 4, 15)
            for window in (0, 1, 5, 30):
                most = rng.choice([0, 1, 4, 9])
                found = list(stairs(meter, window, most))
                self.same(found, [reach_of(meter.wider(k), window) for k in range(most + 1)])
                self.same(found, sorted(found, reverse=True))
        self.same(list(stairs(most=1, window=2, meter=PAIR)), [898, 5 - 2])
        self.same(len(list(stairs(Meter(Exact(10 ** 6)), 0, 60))), 61)
        self.same(list(stairs(Meter(Exact(7)), MOST, 4)), [MOST + 7 - MOST % 7 - 2 * k for k in range(2)]
                  + [reach_of(Meter(Even(7, k)), MOST) for k in (2, 3, 4)])

    def test_steps_are_told_one_by_one(self):
        meter = late_heavy(3)
        rows = stairs(meter, 0, 60)
        self.same([next(rows) for _ in range(3)], [reach_of(meter.wider(k), 0) for k in range(3)])
        self.raises(TOO_MANY, lambda: next(rows))
        self.same(list(islice(stairs(meter, 5, 60), 3)), [reach_of(meter.wider(k), 5) for k in range(3)])
        self.raises(TOO_MANY, stairs, HEAVY, 0, 5)
        self.raises(TOO_MANY, lambda: list(stairs(meter, 0, 3)))
        self.same(len(list(stairs(meter, 0, 2))), 3)

    def test_heavy_at_one_step_alone(self):
        # with 1 more it is heavy; with 2 more the second wheel never parts
        meter = Meter(Wheel(FAR, 999, 0), Exact(7))
        wide = reach_of(meter.wider(2), 10 ** 4)
        self.same(wide, FAR - 1003)
        rows = stairs(meter, 10 ** 4, 2)
        self.assertGreater(next(rows), wide)
        self.raises(TOO_MANY, lambda: next(rows))
        self.raises(TOO_MANY, greatest_slip, meter, wide, 10 ** 4, 2)
        self.same(greatest_slip(meter, wide, 10 ** 4, 0).k, 0)
        self.same(greatest_slip(meter.wider(2), wide, 10 ** 4, 60).k, 0)

    def test_errors(self):
        for value in [*ANY, Exact(5)]:
            self.raises(BadMeter("meter"), stairs, value, None, None)
            self.raises(BadMeter("meter"), stairs, value, 0, 0)
        tight = Meter(Exact(5), Wheel(9, 10 ** 12, 0))
        for meter in (PAIR, HEAVY, tight):
            for value in others(lambda value: is_int(value) and 0 <= value <= MOST) + [MOST + 1, -1]:
                self.raises(BadNumber(value), stairs, meter, value, None)
                self.raises(BadNumber(value), stairs, meter, value, 60)
            for value in others(lambda value: is_int(value) and 0 <= value <= 60) + [61, -1]:
                self.raises(BadNumber(value), stairs, meter, 0, value)
                self.raises(BadNumber(value), stairs, meter, MOST, value)


class Bounds(Case):
    def test_a_wider_meter_is_refused(self):
        for wheels, part in (((Exact(5), Wheel(9, FAR - 3, 0)), "back"), ((Lagging(5, 0), Wheel(9, 0, FAR - 3)), "ahead"),
                             ((Wheel(9, FAR - 3, FAR - 3),), "back"),
                             ((Wheel(9, 0, FAR - 3), Wheel(9, FAR - 3, 0)), "ahead"), ((Even(7, FAR - 3),), "back")):
            meter = Meter(*wheels)
            self.same(len(list(stairs(meter, 0, 3))), 4)
            self.same(greatest_slip(meter, 1, 0, 3).k, 3)
            for most in (4, 60):
                self.raises(BadWheel(part), stairs, meter, 0, most)
                self.raises(BadWheel(part), greatest_slip, meter, 1, 0, most)
                self.raises(BadWheel(part), greatest_slip, meter, MOST, 0, most)
        # a trusted wheel grows no wider; what is heavy comes behind what is refused
        self.same(len(list(stairs(Meter(Grid(5)), 0, 60))), 61)
        heavy = HEAVY + Meter(Wheel(9, FAR, 0))
        self.raises(BadWheel("back"), stairs, heavy, 0, 1)
        self.raises(BadWheel("back"), greatest_slip, heavy, 1, 0, 1)
        self.raises(TOO_MANY, stairs, heavy, 0, 0)
        self.raises(TOO_MANY, greatest_slip, heavy, 1, 0, 0)


class Slips(Case):
    def test_against_sure_for_each_k(self):
        rng = dice(122)
        seen = {}
        for _ in range(300):
            meter = random_meter(rng, 4, 30, (0, 0, 0, 1))
            reach, window, most = rng.randint(1, 60), rng.randint(0, 9), rng.choice([0, 1, 2, 5, 20])
            answers = [sure(meter.wider(k), reach, window) for k in range(most + 1)]
            k = max([at for at, answer in enumerate(answers) if answer], default=-1)
            found = greatest_slip(meter, reach, window, most)
            self.assertIs(type(found), Slip)
            self.same((found.k, bool(found)), (k, k >= 0))
            if k >= 0:
                self.assertIs(type(found.certificate), Sure)
            self.assertEqual(found.certificate, answers[k] if k >= 0 else None)
            if k < most:
                self.assertIs(type(found.counterexample), Unsure)
            self.assertEqual(found.counterexample, answers[k + 1] if k < most else None)
            seen[(k == -1, k == most)] = seen.get((k == -1, k == most), 0) + 1
        self.assertGreater(min(seen.values()), 20)
        self.assertEqual(len(seen), 3)
        self.same(greatest_slip(most=10, window=8, reach=896, meter=PAIR).k, 1)

    def test_trusted_wheels_grow_no_wider(self):
        meter = Meter(Exact(100), Grid(10))
        found = greatest_slip(meter, 10, 9, 60)
        self.same((found.k, found.counterexample), (60, None))
        found = greatest_slip(meter, 100, 9, 60)
        self.same((found.k, found.counterexample.high), (4, 10))

    def test_far_reaches(self):
        found = greatest_slip(Meter(Exact(5), lost=1), MOST, MOST - 1, 60)
        self.same((found.k, found.certificate.tables), (60, ((),)))
        found = greatest_slip(Meter(Exact(5), lost=1), MOST, MOST - 2, 60)
        self.same((found.k, found.certificate, found.counterexample.high), (-1, None, MOST - 1))
        wheels = [Exact(FAR - n) for n in (11, 39, 61, 63, 91, 121)]
        self.same(greatest_slip(Meter(*wheels[:2], Grid(FAR)), 10 ** 20, 0, 0).k, 0)

    def test_too_many_up_to_the_first_that_is_not_sure(self):
        meter = late_heavy(3)
        reach = reach_of(meter.wider(2), 10 ** 4)
        # all before the third are sure for its reach; the third one is heavy
        self.raises(TOO_MANY, greatest_slip, meter, reach, 10 ** 4, 60)
        self.raises(TOO_MANY, greatest_slip, meter, reach, 10 ** 4, 3)
        self.same(greatest_slip(meter, reach, 10 ** 4, 2).k, 2)
        # a later one that is heavy does not matter behind one that is not sure
        self.same(greatest_slip(meter, reach + 1, 10 ** 4, 60).k, 1)
        self.same(greatest_slip(meter, reach_of(meter, 0) + 1, 0, 60).k, -1)
        self.raises(TOO_MANY, greatest_slip, HEAVY, 1, 0, 0)
        self.raises(TOO_MANY, greatest_slip, HEAVY, MOST, 0, 60)

    def test_truth(self):
        self.same([bool(Slip(k, 1, 2)) for k in (-1, 0, 1, -2, None, 10 ** 120 - 1)],
                  [False, True, True, True, True, True])

    def test_errors(self):
        for value in [*ANY, Exact(5)]:
            self.raises(BadMeter("meter"), greatest_slip, value, None, None, None)
            self.raises(BadMeter("meter"), greatest_slip, value, 1, 0, 0)
        tight = Meter(Exact(5), Wheel(9, 10 ** 12, 0))
        for meter in (PAIR, HEAVY, tight):
            for value in others(lambda value: is_int(value) and 1 <= value <= MOST) + [MOST + 1, 0]:
                self.raises(BadNumber(value), greatest_slip, meter, value, None, None)
                self.raises(BadNumber(value), greatest_slip, meter, value, 0, 60)
            for value in others(lambda value: is_int(value) and 0 <= value <= MOST) + [MOST + 1, -1]:
                self.raises(BadNumber(value), greatest_slip, meter, MOST, value, None)
                self.raises(BadNumber(value), greatest_slip, meter, 1, value, 60)
            for value in others(lambda value: is_int(value) and 0 <= value <= 60) + [61, -1]:
                self.raises(BadNumber(value), greatest_slip, meter, 1, MOST, value)
                self.raises(BadNumber(value), greatest_slip, meter, MOST, 0, value)


if __name__ == "__main__":
    unittest.main()
