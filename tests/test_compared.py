"""compared.py: what is blind for one meter and not for another one, against all differences of a round of both."""

import itertools
import math
import unittest

from helpers import ANY, Case, dice, least_of_set
from meter_helpers import blind, is_near
from wheelreach.compared import Fails, Holds, are_alike, blind_lot, tells_no_less
from wheelreach.errors import BadMeter, TooMany
from wheelreach.joins import join
from wheelreach.lots import Lot
from wheelreach.meters import Meter
from wheelreach.reaches import reach_of
from wheelreach.wheels import Even, Exact, Grid, Lagging, Wheel

FAR = 10 ** 12
TOO_MANY = TooMany("runs", 2000)
FINE, COARSE, WIDE = (Meter(Even(100, 1), Even(90, 1)), Meter(Even(100, 2), Even(90, 1)),
                      Meter(Even(100, 3), Even(90, 3)))
HEAVY = Meter(Wheel(FAR, 1000, 0), Exact(FAR - 1))
FOUR = Meter(Exact(7), Exact(9), Exact(11), Exact(13), off=1)


def small_meter(rng, most=12):
    """A meter of one to four wheels of all classes, with the spare 0."""
    wheels = []
    for _ in range(rng.randint(1, 4)):
        period = rng.randint(2, most)
        slip = rng.choice([0, 0, 0, 1, 1, 2])
        wheels.append(rng.choice([Exact(period), Even(period, slip), Wheel(period, slip, rng.randint(0, 1)),
                                  Lagging(period, slip), Grid(period)]))
    return Meter(*wheels)


def round_of(*meters):
    return math.lcm(*[wheel.period for meter in meters for wheel in meter.wheels])


def blind_set(meter, whole):
    return {d for d in range(whole) if all(is_near(wheel, d) for wheel in meter.wheels)}


class Examples(Case):
    def test_examples(self):
        self.same([str(blind_lot(FINE)), are_alike(FINE, COARSE), bool(tells_no_less(FINE, WIDE)),
                   bool(tells_no_less(WIDE, FINE)), tells_no_less(FINE, WIDE).tables[1]],
                  ['modulo 900 : 898 to 902', True, True, False, (900, ((898, 902),))])
        self.raises(BadMeter("spare"), tells_no_less, FOUR, FINE)

    def test_names_of_arguments(self):
        self.same(blind_lot(meter=FINE) == blind_lot(FINE), True)
        self.same(bool(tells_no_less(other=WIDE, one=FINE)), True)
        self.same(are_alike(other=WIDE, one=FINE), False)


class BlindLot(Case):
    def test_all_differences_of_a_round(self):
        rng = dice(201)
        full = 0
        for _ in range(400):
            meter = small_meter(rng)
            whole = round_of(meter)
            found = blind_lot(meter)
            self.assertIs(type(found), Lot)
            inside = {d for d in range(whole) if meter.is_blind(d)}
            self.assertEqual(inside, {d for d in range(whole) if blind(meter, d)})
            if whole <= 2000:
                self.same((found.period, found.runs), least_of_set(whole, inside))
            self.assertEqual({d for d in range(whole) if d in found}, inside)
            full += len(inside) == whole
        self.assertGreater(full, 5)

    def test_great_periods(self):
        self.same(str(blind_lot(Meter(Exact(FAR), Exact(FAR - 1)))), f"modulo {FAR * (FAR - 1)} : 0 to 0")
        tens = Meter(Even(10 ** 12, 10 ** 10), Even(10 ** 11 * 9, 10 ** 10))
        self.same(str(blind_lot(tens)), f"modulo {9 * FAR} : {9 * FAR - 2 * 10 ** 10} to {9 * FAR + 2 * 10 ** 10}")
        self.same(blind_lot(Meter(Even(FAR, FAR))) == Lot.every(), True)
        eight = Meter(*[Exact(FAR - n) for n in (0, 1, 3, 7, 9, 11, 13, 17)])
        self.same(blind_lot(eight) == Lot.multiples(math.lcm(*[wheel.period for wheel in eight])), True)

    def test_errors(self):
        for value in [*ANY, Exact(5), Holds(())]:
            self.raises(BadMeter("meter"), blind_lot, value)
        for numbers in itertools.product((0, 1, 8), repeat=3):
            for meter in (FINE, HEAVY, Meter(Grid(5))):
                other = meter.with_numbers(*numbers)
                if any(numbers):
                    self.raises(BadMeter("spare"), blind_lot, other)
                elif meter is HEAVY:
                    self.raises(TOO_MANY, blind_lot, other)
                else:
                    blind_lot(other)
        # a beginning of it is heavy, though the whole is not
        self.raises(TOO_MANY, blind_lot, HEAVY + Meter(Exact(FAR)))
        self.same(blind_lot(Meter(Exact(FAR)) + HEAVY).size, 1)


class NoLess(Case):
    def check(self, one, other):
        """Compares both by all differences of a round of both; tells whether one tells no less."""
        whole = round_of(one, other)
        first, second = blind_set(one, whole), blind_set(other, whole)
        found = tells_no_less(one, other)
        if first <= second:
            self.assertIs(type(found), Holds)
            self.same(found.tables, join(*[wheel.near for wheel in one.wheels]).tables)
        else:
            self.assertIs(type(found), Fails)
            self.assertGreaterEqual(found.d, 1)
            self.assertIn(found.d % whole, first)
            self.assertNotIn(found.d % whole, second)
        self.same(bool(found), first <= second)
        self.assertEqual(found, tells_no_less(one, other))
        self.same(are_alike(one, other), first == second)
        return first <= second

    def test_pairs_of_meters(self):
        rng = dice(202)
        seen = {True: 0, False: 0}
        for _ in range(500):
            one, other = small_meter(rng, 9), small_meter(rng, 9)
            if round_of(one, other) <= 3000:
                seen[self.check(one, other)] += 1
        self.assertGreater(min(seen.values()), 60)

    def test_meters_that_are_near_one_another(self):
        rng = dice(203)
        seen = {}
        for _ in range(250):
            meter = small_meter(rng, 9)
            shuffled = list(meter.wheels)
            rng.shuffle(shuffled)
            rows = [("same", Meter(*meter.wheels)), ("order", Meter(*shuffled)), ("wider", meter.wider(1)),
                    ("times", meter * rng.randint(2, 3)), ("more", meter + Meter(Exact(rng.randint(2, 9))))]
            if len(meter) > 1:
                rows.append(("less", meter.without(rng.randrange(len(meter)))))
            for name, other in rows:
                if round_of(meter, other) > 3000:
                    continue
                for one, two in ((meter, other), (other, meter)):
                    told = (name, one is meter, self.check(one, two))
                    seen[told] = seen.get(told, 0) + 1
        for name in ("same", "order"):
            self.assertNotIn((name, True, False), seen)
            self.assertNotIn((name, False, False), seen)
        # a wheel more parts no less, more slip parts no more
        self.assertNotIn(("more", False, False), seen)
        self.assertNotIn(("less", True, False), seen)
        self.assertNotIn(("wider", True, False), seen)
        for told in (("more", True, False), ("less", False, False), ("wider", False, False), ("times", True, False)):
            self.assertGreater(seen[told], 10)

    def test_less_reach_for_no_window(self):
        rng = dice(204)
        for _ in range(100):
            one, other = small_meter(rng, 9), small_meter(rng, 9)
            for window in range(12) if tells_no_less(one, other) else ():
                self.assertGreaterEqual(reach_of(one, window), reach_of(other, window))

    def test_great_periods(self):
        one = Meter(Exact(FAR), Exact(FAR - 1), Exact(FAR - 3))
        self.same(bool(tells_no_less(one, Meter(Exact(FAR), Exact(FAR - 1)))), True)
        found = tells_no_less(Meter(Exact(FAR), Exact(FAR - 1)), one)
        self.same((bool(found), found.d % FAR, found.d % (FAR - 1), found.d % (FAR - 3) == 0), (False, 0, 0, False))
        # two wheels with the common divisor 10: more play than 4 meets at other differences too
        for slip, wanted in ((0, True), (1, True), (3, True), (4, True), (5, False), (6, False)):
            one = Meter(Even(FAR, slip), Even(FAR - 10, slip))
            self.same(bool(tells_no_less(one, Meter(Even(FAR, 4), Even(FAR - 10, 4)))), wanted)
        big = 10 ** 6
        one = Meter(Even(big * 10 ** 6, big // 4), Even(big * (10 ** 6 - 1), big // 4 - 1))
        self.same(bool(tells_no_less(one, one.wider(5))), True)
        found = tells_no_less(one.wider(big), one)
        self.same((one.wider(big).is_blind(found.d), one.is_blind(found.d)), (True, False))
        eight = Meter(*[Exact(FAR - n) for n in (0, 1, 3, 7, 9, 11, 13, 17)])
        self.same(bool(tells_no_less(eight, eight.without(3))), True)
        found = tells_no_less(eight.without(3), eight)
        self.same((eight.without(3).is_blind(found.d), eight.is_blind(found.d)), (True, False))

    def test_tables_one_by_one(self):
        found = tells_no_less(Meter(Exact(4), Even(9, 1), Grid(6)), Meter(Exact(2)))
        inside = [d for d in range(36) if d % 4 == 0 and is_near(Even(9, 1), d)]
        self.same(found.tables, ((4, ((0, 0),)), (36, tuple((d, d) for d in inside)),
                                 (36, tuple((d, d) for d in inside if d % 6 == 0))))

    def test_all_are_blind(self):
        every = Meter(Even(3, 1), Even(5, 2))
        self.same(tells_no_less(every, every).tables, ((1, ((0, 0),)), (1, ((0, 0),))))
        found = tells_no_less(every, Meter(Exact(4)))
        self.same((type(found), found.d % 4 == 0, found.d >= 1), (Fails, False, True))
        self.same(bool(tells_no_less(Meter(Exact(4)), every)), True)
        self.same([are_alike(every, Meter(Even(2, 1))), are_alike(every, Meter(Exact(2)))], [True, False])
        # a trusted wheel parts as another one does
        self.same(are_alike(Meter(Grid(6)), Meter(Exact(2), Exact(3))), True)


class Heavy(Case):
    def test_other_may_be_heavy(self):
        for one, wanted in ((FINE, False), (Meter(Exact(FAR), Exact(FAR - 1)), True), (Meter(Exact(FAR)), False),
                            (Meter(Exact(FAR * 10 // 10), Wheel(FAR - 1, 0, 2)), False)):
            found = tells_no_less(one, HEAVY)
            self.same(bool(found), wanted)
            if not wanted:
                self.same((one.is_blind(found.d), HEAVY.is_blind(found.d)), (True, False))
            self.raises(TOO_MANY, tells_no_less, HEAVY, one)
            self.raises(TOO_MANY, are_alike, one, HEAVY)
            self.raises(TOO_MANY, are_alike, HEAVY, one)
        self.raises(TOO_MANY, tells_no_less, HEAVY, HEAVY)
        self.raises(TOO_MANY, are_alike, HEAVY, HEAVY)
        just = Meter(Wheel(FAR, 400, 599), Exact(FAR - 1))
        self.same(bool(tells_no_less(just, HEAVY)), True)
        self.same(bool(tells_no_less(just, just.wider(1))), True)
        self.raises(TOO_MANY, tells_no_less, just.wider(1), just)


class Wrong(Case):
    def test_errors_in_their_order(self):
        spared = [FINE.with_numbers(*numbers) for numbers in ((1, 0, 0), (0, 1, 0), (0, 0, 1), (8, 8, 8))]
        spared += [HEAVY.with_numbers(0, 0, 2), Meter(Grid(5), lost=1)]
        for work in (tells_no_less, are_alike):
            for value in [*ANY, Exact(5)]:
                for other in [None, value, FINE, HEAVY, *spared]:
                    self.raises(BadMeter("one"), work, value, other)
                for one in [FINE, HEAVY, *spared]:
                    self.raises(BadMeter("other"), work, one, value)
            for one in spared:
                for other in [FINE, HEAVY, *spared]:
                    self.raises(BadMeter("spare"), work, one, other)
                    self.raises(BadMeter("spare"), work, other, one)


if __name__ == "__main__":
    unittest.main()
