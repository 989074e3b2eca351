"""lots.py: how a lot is made, its least form, its runs, and what no call may change."""

import math
import unittest

from helpers import ANY, Case, dice, is_int, least_of_set, others, random_lot, random_runs, remainders, small_lots
from wheelreach.errors import BadLot, NoPlace, TooMany
from wheelreach.lots import Lot

FAR = 10 ** 119


def is_run(value):
    return (isinstance(value, tuple) and len(value) == 2 and is_int(value[0]) and is_int(value[1])
            and value[0] <= value[1])


class Making(Case):
    def form(self, lot, period, runs):
        self.same((lot.period, lot.runs, lot.size), (period, runs, sum(e - b + 1 for b, e in runs)))

    def test_examples(self):
        ten, odd = Lot.around(10, 2), Lot(2, (1, 1))
        self.form(ten, 10, ((8, 12),))
        self.same(ten.size, 5)
        self.same([str(ten & odd), str(ten | odd)], ["modulo 10 : 1 to 1 , 9 to 9", "modulo 10 : 5 to 5 , 7 to 13"])
        self.same([str(~ten), str(ten - odd)], ["modulo 10 : 3 to 7", "modulo 10 : 0 to 0 , 2 to 2 , 8 to 8"])
        self.same([str(ten + 3), str(-Lot(7, (1, 2)))], ["modulo 10 : 1 to 5", "modulo 7 : 5 to 6"])
        self.same([str(Lot(12, (1, 2), (7, 8))), Lot(4, (0, 1), (2, 3)) == Lot.every()], ["modulo 6 : 1 to 2", True])
        self.same([str(Lot(6, (4, 7), (6, 8))), str(odd * 3)], ["modulo 6 : 4 to 8", "modulo 6 : 3 to 3"])
        self.same(str(ten // 3), "modulo 10 : 0 to 0 , 3 to 4 , 6 to 7")
        self.same([str(ten // 4), str(Lot(12, (1, 1), (5, 5)) % 8)],
                  ["modulo 5 : 0 to 0 , 2 to 3", "modulo 4 : 1 to 1"])

    def test_all_subsets(self):
        for period, inside, lot in small_lots():
            self.form(lot, *least_of_set(period, inside))

    def test_runs_in_any_form(self):
        rng = dice(1)
        for _ in range(3000):
            period = rng.randint(1, 24)
            runs = random_runs(rng, period, 6)
            lot = Lot(period, *runs)
            least = least_of_set(period, remainders(period, runs))
            self.form(lot, *least)
            rng.shuffle(runs)
            moved = [(b + period * n, e + period * n) for b, e in runs for n in [rng.randint(-9, 9)]]
            self.form(Lot(period, *moved), *least)
            self.form(Lot(period * 3, *[(b + period * n, e + period * n) for b, e in runs for n in range(3)]), *least)

    def test_touching_and_overlapping(self):
        self.form(Lot(20, (1, 3), (4, 5)), 20, ((1, 5),))
        self.form(Lot(20, (4, 5), (1, 3)), 20, ((1, 5),))
        self.form(Lot(20, (1, 3), (5, 5)), 20, ((1, 3), (5, 5)))
        self.form(Lot(20, (1, 9), (2, 3), (4, 4)), 20, ((1, 9),))
        self.form(Lot(20, (18, 19), (0, 1)), 20, ((18, 21),))
        self.form(Lot(20, (19, 22), (1, 4)), 20, ((19, 24),))
        self.form(Lot(20, (17, 23), (5, 5)), 20, ((5, 5), (17, 23)))
        self.form(Lot(20, (17, 23), (4, 4)), 20, ((17, 24),))
        self.form(Lot(20, (17, 30), (4, 4), (7, 16)), 1, ((0, 0),))
        self.form(Lot(20, (17, 30), (4, 4), (11, 15)), 20, ((17, 35),))
        self.form(Lot(20, (17, 30), (4, 4), (7, 15)), 20, ((17, 35),))
        self.form(Lot(20, (5, 5), (5, 5)), 20, ((5, 5),))

    def test_all_and_none(self):
        for lot in (Lot.every(), Lot(1, (5, 5)), Lot(7, (3, 9)), Lot(7, (3, 10)), Lot(7, (-FAR, FAR)),
                    Lot(2, (0, 0), (1, 1)), Lot(FAR, (1, FAR)), Lot(FAR, (0, 5), (6, FAR - 1)), Lot(1, (0, 0), (9, 9))):
            self.form(lot, 1, ((0, 0),))
            self.same((len(lot), bool(lot), str(lot), lot == Lot.every()), (1, True, "every", True))
        for lot in (Lot.none(), Lot(1), Lot(7), Lot(FAR)):
            self.form(lot, 1, ())
            self.same((len(lot), bool(lot), str(lot), lot == Lot.none()), (0, False, "none", True))
        self.form(Lot(7, (3, 8)), 7, ((3, 8),))

    def test_great_periods(self):
        period = 10 ** 120 - 1
        self.form(Lot(period, (-3, 10 ** 118)), period, ((period - 3, period + 10 ** 118),))
        self.form(Lot(period, (7 - period * 5, 9 - period * 5), (-1, -1)), period, ((7, 9), (period - 1, period - 1)))
        third = period // 3
        self.form(Lot(period, (5, 10 ** 100), (third + 5, third + 10 ** 100), (2 * third + 5, 2 * third + 10 ** 100)),
                  third, ((5, 10 ** 100),))
        wide = Lot(period, *[(k * 10 ** 116, k * 10 ** 116 + 10 ** 115) for k in range(2000)])
        self.same((len(wide), wide.size), (2000, 2000 * (10 ** 115 + 1)))

    def test_around(self):
        for period in range(1, 12):
            for play in range(15):
                wanted = {x for x in range(period) if min(x, period - x) <= play}
                self.form(Lot.around(period, play), *least_of_set(period, wanted))
        self.form(Lot.around(FAR, FAR // 2 - 1), FAR, ((FAR // 2 + 1, FAR + FAR // 2 - 1),))
        self.form(Lot.around(FAR, FAR // 2), 1, ((0, 0),))
        self.form(Lot.around(play=2, period=10), 10, ((8, 12),))

    def test_multiples(self):
        for n in (2, 3, 10, FAR):
            self.form(Lot.multiples(n), n, ((0, 0),))
        self.same(Lot.multiples(n=1), Lot.every())

    def test_wrong_periods_and_runs(self):
        for value in others(lambda value: is_int(value) and value >= 1):
            self.raises(BadLot("period"), Lot, value)
            self.raises(BadLot("period"), Lot, value, (0, 0), None)
            self.raises(BadLot("period"), Lot.around, value, None)
            self.raises(BadLot("period"), Lot.multiples, value)
        for value in others(is_run) + [(2, 1), (1.0, 2), [0, 0], (0,), ((0, 0), (1, 1)), (0, True), (True, 1)]:
            self.raises(BadLot("run"), Lot, 10, value)
            self.raises(BadLot("run"), Lot, 10, (0, 0), value)
            self.raises(BadLot("run"), Lot, 10, value, (0, 20))
            self.raises(BadLot("run"), Lot, 10 ** 6, *[(3 * k, 3 * k) for k in range(2001)], value)
        for value in others(lambda value: is_int(value) and value >= 0):
            self.raises(BadLot("play"), Lot.around, 10, value)
        self.same(Lot(period=1), Lot.none())

    def test_too_many_runs(self):
        self.same(Lot.MOST, 2000)
        for period in (10000, 10 ** 100):
            runs = [(k * k + 3 * k, k * k + 3 * k) for k in range(2001)]
            self.same(len(Lot(period ** 2, *runs[:2000])), 2000)
            self.raises(TooMany("runs", 2000), Lot, period ** 2, *runs)
        # they are counted by the period that is passed, not by the least one
        self.same(Lot(4000, *[(2 * k, 2 * k) for k in range(2000)]), Lot(2, (0, 0)))
        self.raises(TooMany("runs", 2000), Lot, 4002, *[(2 * k, 2 * k) for k in range(2001)])
        # more of them may be passed if they grow together
        self.same(Lot(10 ** 6, *[(k, k) for k in range(3000)]).runs, ((0, 2999),))
        self.same(Lot(6000, *[(2 * k, 2 * k + 1) for k in range(3000)]), Lot.every())
        self.same(Lot(10 ** 6, *[(0, k) for k in range(3000)]).runs, ((0, 2999),))


class Looking(Case):
    def test_runs_and_places(self):
        lot = Lot(30, (2, 3), (5, 9), (11, 11), (28, 30))
        runs = ((2, 3), (5, 9), (11, 11), (28, 30))
        self.same((lot.runs, len(lot), list(lot), tuple(lot)), (runs, 4, list(runs), runs))
        for at in range(4):
            self.same(lot[at], runs[at])
            for to in range(7):
                self.same(lot[at:to], runs[at:to])
            self.same((lot[at:], lot[:at]), (runs[at:], runs[:at]))
        self.same((lot[:], lot[FAR:], lot[:FAR], lot[9:2]), (runs, (), runs, ()))
        for at in (-1, 4, -4, 5, FAR, -FAR):
            self.raises(NoPlace(at), lot.__getitem__, at)
        for at in (0, -1, 1):
            self.raises(NoPlace(at), Lot.none().__getitem__, at)
        self.same((Lot.every()[0], Lot.every()[:5], Lot.none()[:5]), ((0, 0), ((0, 0),), ()))
        self.raises(NoPlace(1), Lot.every().__getitem__, 1)

    def test_two_walks_at_once(self):
        lot = Lot(9, (1, 1), (3, 4), (6, 6))
        self.same([(one, other) for one in lot for other in lot],
                  [(one, other) for one in lot.runs for other in lot.runs])
        first, second = lot.each(3), lot.each(-2)
        self.same([(next(first), next(second)) for _ in range(4)], [(3, 1), (4, 3), (6, 4), (10, 6)])
        one, other = iter(lot), iter(lot)
        self.same([next(one), next(one), next(other)], [(1, 1), (3, 4), (1, 1)])

    def test_equal(self):
        lots = small_lots()
        for period, inside, lot in lots[::3]:
            for length, within, other in lots:
                whole = math.lcm(period, length)
                equal = all((x % period in inside) == (x % length in within) for x in range(whole))
                self.same((lot == other, lot != other), (equal, not equal))
        for value in ANY:
            self.same(Lot(5, (1, 1)) == value, False)
            self.same(Lot(5, (0, 1)) == value, isinstance(value, Lot) and len(value) == 1 and value.period == 5)
        self.same((Lot.every() == 1, Lot.none() == (), Lot.none() != ()), (False, False, True))

    def test_truth(self):
        for _, inside, lot in small_lots():
            self.same(bool(lot), bool(inside))

    def test_members(self):
        for period, inside, lot in small_lots():
            for x in range(-14, 15):
                self.same(x in lot, x % period in inside)
                self.same(x + FAR * 60 in lot, (x + FAR * 60) % period in inside)
        for value in others(is_int):
            for lot in (Lot.every(), Lot.none(), Lot(3, (1, 1))):
                self.same(value in lot, False)

    def test_members_of_great_lots(self):
        lot = Lot(FAR, (5, 9), (FAR - 10, FAR + 1))
        for x, wanted in ((5, True), (9, True), (10, False), (1, True), (2, False), (-10, True), (-11, False),
                          (0, True), (4, False)):
            self.same((x in lot, x + FAR in lot, x - 8 * FAR in lot), (wanted,) * 3)

    def test_is_within(self):
        lots = small_lots()
        for period, inside, lot in lots[::2]:
            for length, within, other in lots:
                whole = math.lcm(period, length)
                wanted = all(x % length in within for x in range(whole) if x % period in inside)
                self.same(lot.is_within(other), wanted)
        rng = dice(5)
        for _ in range(500):
            one, other = random_lot(rng, 40), random_lot(rng, 40)
            self.same((one & other).is_within(one), True)
            self.same(one.is_within(one | other), True)
            self.same(one.is_within(other), (one - other) == Lot.none())
        for value in others(lambda value: isinstance(value, Lot)):
            for lot in (Lot.every(), Lot.none(), Lot(3, (1, 1))):
                self.raises(BadLot("other"), lot.is_within, value)
        self.same(Lot(6, (1, 1)).is_within(other=Lot(3, (1, 1))), True)

    def test_is_within_of_many_runs(self):
        near, far = Lot.around(10 ** 50, 10 ** 40), Lot.around(10 ** 50 + 1, 10 ** 40)
        self.raises(TooMany("runs", 2000), lambda: near & far)
        self.raises(TooMany("runs", 2000), lambda: near - far)
        self.same((near.is_within(far), far.is_within(near), near.is_within(near | Lot(10 ** 50, (9, 9)))),
                  (False, False, True))
        many = Lot(FAR, *[(k * k * 5, k * k * 5 + k) for k in range(1, 2000)])
        self.same((many.is_within(many), (many + 1).is_within(many), many.is_within(many % (10 ** 20))),
                  (True, False, True))


if __name__ == "__main__":
    unittest.main()
