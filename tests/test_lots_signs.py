"""lots.py: the operators, against all integers of a round."""

import math
import unittest

from helpers import ANY, Case, dice, is_int, least_of_set, others, random_lot, small_lots
from wheelreach.errors import BadLot, TooMany
from wheelreach.lots import Lot

FAR = 10 ** 119
TOO_MANY = TooMany("runs", 2000)


def inside(lot):
    """The members of a lot from 0 to its period - 1, each asked by its remainder."""
    return {x % lot.period for begin, end in lot.runs for x in range(begin, end + 1)}


def keep(one):
    return (one.period, one.runs, one.size)


class Signs(Case):
    def form(self, lot, period, members):
        least = least_of_set(period, members)
        self.same((lot.period, lot.runs, lot.size), (*least, sum(e - b + 1 for b, e in least[1])))

    def check_two(self, one, other):
        whole = math.lcm(one.period, other.period)
        mine, theirs = inside(one), inside(other)
        first = {x for x in range(whole) if x % one.period in mine}
        second = {x for x in range(whole) if x % other.period in theirs}
        before = keep(one), keep(other)
        self.form(one & other, whole, first & second)
        self.form(one | other, whole, first | second)
        self.form(one - other, whole, first - second)
        self.same((keep(one), keep(other)), before)

    def test_two_lots(self):
        lots = [lot for _, _, lot in small_lots()]
        for one in lots[::3]:
            for other in lots:
                self.check_two(one, other)
        rng = dice(7)
        for _ in range(1500):
            self.check_two(random_lot(rng, 40, 6), random_lot(rng, 40, 6))
        for lot in lots:
            for plain in (Lot.every(), Lot.none()):
                self.check_two(lot, plain)
                self.check_two(plain, lot)

    def test_one_lot(self):
        for period, members, lot in small_lots():
            before = keep(lot)
            self.form(~lot, period, set(range(period)) - members)
            self.form(-lot, period, {-x % period for x in members})
            for k in range(-9, 10):
                self.form(lot + k, period, {(x + k) % period for x in members})
                self.form(lot - k, period, {(x - k) % period for x in members})
            for n in range(1, 9):
                self.form(lot * n, period * n, {x * n for x in members})
                self.form(lot // n, period, {d for d in range(period) if n * d % period in members})
                self.form(lot % n, n, {x % n for k in range(n) for y in members for x in [y + k * period]})
            self.same(keep(lot), before)

    def test_one_lot_of_more_runs(self):
        rng = dice(8)
        for _ in range(400):
            lot = random_lot(rng, 60, 8)
            period, members = lot.period, inside(lot)
            n, k = rng.randint(1, 40), rng.randint(-10 ** 6, 10 ** 6)
            self.form(~lot, period, set(range(period)) - members)
            self.form(-lot, period, {-x % period for x in members})
            self.form(lot + k, period, {(x + k) % period for x in members})
            self.form(lot * n, period * n, {x * n for x in members})
            self.form(lot // n, period, {d for d in range(period) if n * d % period in members})
            self.form(lot % n, math.gcd(n, period), {x % math.gcd(n, period) for x in members})

    def test_all_and_none(self):
        every, none = Lot.every(), Lot.none()
        self.same((~every == none, ~none == every, -every == every, -none == none), (True,) * 4)
        self.same((every + FAR == every, none - FAR == none), (True, True))
        self.same((every * 10 ** 30, none * 10 ** 30), (Lot.multiples(10 ** 30), none))
        self.same((every // 10 ** 30, none // 10 ** 30, every % 10 ** 30, none % 10 ** 30), (every, none, every, none))
        many = Lot(FAR, *[(k * k, k * k) for k in range(2, 2002)])
        self.same((many & every, many | none, many - none, every - many, many & none, many | every, none - many),
                  (many, many, many, ~many, none, every, none))

    def test_great_lots(self):
        one, other = Lot.around(10 ** 60, 10 ** 59), Lot.around(10 ** 60 + 10 ** 57, 10 ** 58)
        both = one & other
        self.same((both.period, bool(both.runs)), (math.lcm(10 ** 60, 10 ** 60 + 10 ** 57), True))
        for begin, end in both:
            for x, wanted in ((begin - 1, False), (begin, True), (end, True), (end + 1, False)):
                self.same((x in one and x in other, x in both), (wanted, wanted))
        # the sum of all places and shifts of both: 10 ** 57 is the greatest common divisor
        self.same((one | other).size, (10 ** 60 // 10 ** 57 * other.size) + (1001 * one.size) - both.size)
        self.same((Lot.around(FAR, 2) & Lot.around(10 * FAR, 3)).runs, ((10 * FAR - 2, 10 * FAR + 2),))
        self.same((Lot.around(10 * FAR, 5) | Lot.around(FAR, 4)).runs,
                  (*[(k * FAR - 4, k * FAR + 4) for k in range(1, 10)], (10 * FAR - 5, 10 * FAR + 5)))
        self.same(Lot(FAR, (3, 5)) * 10 ** 30, Lot(FAR * 10 ** 30, *[(x * 10 ** 30, x * 10 ** 30) for x in (3, 4, 5)]))
        self.same(Lot(FAR, (3, 10 ** 100)) // 10 ** 30, Lot(10 ** 89, (1, 10 ** 70)))
        self.same(Lot(FAR, (3, 10 ** 100)) // 10 ** 29, Lot(10 ** 90, (1, 10 ** 71)))
        period = FAR + 1
        self.same(Lot(period, (0, 10 ** 100)) // 7,
                  Lot(period, *[(-(-(k * period) // 7), (k * period + 10 ** 100) // 7) for k in range(7)]))
        self.same(Lot(FAR, (3, 10 ** 20)) % 10 ** 30, Lot(10 ** 30, (3, 10 ** 20)))
        self.same(Lot(FAR, (3, 10 ** 30 + 1)) % 10 ** 30, Lot(10 ** 30, (3, 10 ** 30 + 1)))
        self.same(Lot(FAR, (3, 10 ** 30 + 2)) % 10 ** 30, Lot.every())
        self.same(Lot(FAR, (3, 5)) + (10 ** 120 - 1), Lot(FAR, (2, 4)))

    def test_in_place(self):
        ten = Lot.around(10, 2)
        bound, before = ten, keep(ten)
        bound &= Lot(4, (1, 1))
        self.same(bound, ten & Lot(4, (1, 1)))
        bound = ten
        bound |= Lot(4, (1, 1))
        self.same(bound, ten | Lot(4, (1, 1)))
        bound = ten
        bound -= Lot(4, (0, 1))
        self.same(bound, ten - Lot(4, (0, 1)))
        bound = ten
        bound -= 3
        self.same(bound, ten - 3)
        bound = ten
        bound += 3
        self.same(bound, ten + 3)
        bound = ten
        bound *= 3
        self.same(bound, ten * 3)
        bound = ten
        bound //= 3
        self.same(bound, ten // 3)
        bound = ten
        bound %= 4
        self.same(bound, ten % 4)
        self.same(keep(ten), before)

    def test_wrong_others(self):
        lots = (Lot.every(), Lot.none(), Lot(7, (1, 2)))
        for value in others(lambda value: isinstance(value, Lot)):
            for lot in lots:
                self.raises(BadLot("other"), lambda: lot & value)
                self.raises(BadLot("other"), lambda: lot | value)
                if not is_int(value):
                    self.raises(BadLot("other"), lambda: lot - value)
        for value in others(is_int):
            for lot in lots:
                self.raises(BadLot("other"), lambda: lot + value)

    def test_wrong_factors(self):
        many = Lot(FAR, *[(2 * k, 2 * k) for k in range(2000)])
        for value in others(lambda value: is_int(value) and value >= 1) + [10 ** 30 + 1]:
            for lot in (Lot.every(), Lot.none(), Lot(7, (1, 2)), Lot(9000, (1, 2001)), many):
                self.raises(BadLot("other"), lambda: lot * value)
                self.raises(BadLot("other"), lambda: lot // value)
                self.raises(BadLot("other"), lambda: lot % value)
        for value in ANY:
            if is_int(value) and 1 <= value <= 10 ** 30:
                self.same(Lot.every() % value, Lot.every())

    def test_too_many_in_products(self):
        self.same((Lot(FAR, (1, 2000)) * 2).size, 2000)
        self.raises(TOO_MANY, lambda: Lot(FAR, (1, 2001)) * 2)
        self.same(Lot(FAR, (1, 2001)) * 1, Lot(FAR, (1, 2001)))
        self.raises(TOO_MANY, lambda: Lot(FAR, (0, 10 ** 100)) * 2)
        self.same(len(Lot(FAR + 3, (1, 1)) // 2000), 1)
        self.same(len(Lot(FAR, (0, 10 ** 50)) // 1999), 1999)
        self.same(len(Lot(10 ** 100 + 1, (0, 10 ** 50)) // 2000), 2000)
        self.raises(TOO_MANY, lambda: Lot(FAR, (0, 10 ** 50)) // 2001)
        self.raises(TOO_MANY, lambda: Lot(FAR, (1, 1)) // 2001)
        self.raises(TOO_MANY, lambda: Lot(FAR, (0, 0), (2, 2)) // 1001)
        self.same(len(Lot(10 ** 100 + 1, (0, 10 ** 50), (10 ** 60, 10 ** 61)) // 1000), 2000)
        self.raises(TOO_MANY, lambda: Lot(10 ** 100 + 1, (0, 10 ** 50), (10 ** 60, 10 ** 61)) // 1001)
        # only what n and the period do not share counts
        self.same(len(Lot(2000 * 2001, (0, 2001)) // 2001), 1)
        self.same(Lot(10 ** 30, (0, 5)) // 10 ** 30, Lot.every())
        self.same(Lot(10 ** 30, (1, 5)) // 10 ** 30, Lot.none())

    def test_too_many_in_sums(self):
        # each member of the one goes with the member of the other once
        one, right, great = Lot(7, (3, 3)), Lot(10 ** 60, (0, 1999)), Lot(10 ** 60, (0, 2000))
        self.same((len(one & right), len(right & one), len(right - ~one), len(~one | ~right)), (2000,) * 4)
        for work in (lambda: one & great, lambda: great & one, lambda: great - ~one, lambda: one - ~great,
                     lambda: ~one | ~great, lambda: ~great | ~one):
            self.raises(TOO_MANY, work)
        # long runs, each of which is met by some others
        self.raises(TOO_MANY, lambda: Lot.around(10 ** 6, 1) | Lot.around(10 ** 6 + 1, 1))
        self.raises(TOO_MANY, lambda: Lot.around(10 ** 60, 10 ** 50) & Lot.around(10 ** 60 + 1, 10 ** 50))
        self.same(len(Lot.around(10 ** 60, 999) & Lot.around(10 ** 60 + 1, 0)), 1999)
        self.raises(TOO_MANY, lambda: Lot.around(10 ** 60, 1000) & Lot.around(10 ** 60 + 1, 0))
        # all integers have no maximal runs at all
        half = Lot(6000, *[(3 * k, 3 * k + 1) for k in range(2000)])
        self.same(half | ~half, Lot.every())
        self.same(half & ~half, Lot.none())

    def test_too_many_counts_the_whole_round(self):
        # all even integers, and a few odd ones that never meet: the result has the period 2 and one run
        def even_and(odd, many):
            return Lot(4 * many, *[(2 * k, 2 * k) for k in range(2 * many)], (odd, odd))
        even = Lot(2, (0, 0))
        self.same(even_and(1, 8) & even_and(3, 125), even)
        self.same(~even_and(1, 8) | ~even_and(3, 125), ~even)
        self.same(even_and(1, 8) - ~even_and(3, 125), even)
        for work in (lambda: even_and(1, 7) & even_and(3, 143), lambda: ~even_and(1, 7) | ~even_and(3, 143),
                     lambda: even_and(1, 7) - ~even_and(3, 143)):
            self.raises(TOO_MANY, work)

    def test_least_form_of_a_meeting_can_be_less(self):
        # 4 k and 4 k + 1 by 12, and all but some of them: what is left comes again each 4
        one = Lot(12, (0, 0), (4, 4), (8, 8), (1, 1))
        other = Lot(12, (0, 0), (4, 4), (8, 8), (2, 2))
        self.same(one & other, Lot(4, (0, 0)))
        thousand = 4 * 2001
        many = Lot(thousand, *[(4 * k, 4 * k) for k in range(1999)], (7996, 7997))
        more = Lot(thousand, *[(4 * k, 4 * k) for k in range(1999)], (7995, 7996))
        self.same(len(many & more), 2000)


if __name__ == "__main__":
    unittest.main()
