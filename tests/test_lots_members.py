"""lots.py: members, the nearest ones, how many, one by one, and their runs."""

import itertools
import unittest

from helpers import Case, dice, is_int, members_of, others, random_lot, small_lots
from wheelreach.errors import BadNumber, NoMember
from wheelreach.lots import Lot

FAR = 10 ** 119


def runs_of(numbers):
    """The maximal runs of ascending integers."""
    runs = []
    for x in numbers:
        if runs and runs[-1][1] == x - 1:
            runs[-1] = (runs[-1][0], x)
        else:
            runs.append((x, x))
    return runs


class Members(Case):
    def setUp(self):
        rng = dice(11)
        self.lots = [lot for _, _, lot in small_lots()] + [random_lot(rng, 20, 4) for _ in range(150)]

    def test_examples(self):
        ten, odd = Lot.around(10, 2), Lot(2, (1, 1))
        self.same([True in ten, odd.is_within(ten), ten.at_least(3), ten.at_most(7)], [False, False, 8, 2])
        self.same([ten.how_many(0, 10 ** 30), ten.nth(3), ten.nth(0, -1)], [5 * 10 ** 29 + 1, 8, -1])
        self.same([next(ten.each(5)), list(ten.runs_between(-1, 19))], [8, [(-1, 2), (8, 12), (18, 19)]])

    def test_nearest(self):
        for lot in self.lots:
            if not lot:
                continue
            numbers = members_of(lot, -70, 70)
            for n in range(-25, 26):
                self.same(lot.at_least(n), min(x for x in numbers if x >= n))
                self.same(lot.at_most(n), max(x for x in numbers if x <= n))
                self.same(lot.at_least(n + lot.period * FAR), lot.at_least(n) + lot.period * FAR)
                self.same(lot.at_most(n - lot.period * FAR), lot.at_most(n) - lot.period * FAR)

    def test_how_many(self):
        for lot in self.lots:
            numbers = members_of(lot, -30, 30)
            for low in range(-30, 31, 3):
                for high in range(-30, 31, 2):
                    self.same(lot.how_many(low, high), len([x for x in numbers if low <= x <= high]))
            self.same(lot.how_many(-FAR * lot.period, FAR * lot.period - 1), 2 * FAR * lot.size)
            self.same((lot.how_many(FAR, -FAR), lot.how_many(5, 4)), (0, 0))

    def test_nth(self):
        for lot in self.lots:
            if not lot:
                continue
            numbers = members_of(lot, -40, 140)
            for begin in range(-30, 31, 4):
                wanted = [x for x in numbers if x >= begin]
                for index in range(6):
                    self.same(lot.nth(index, begin), wanted[index])
            self.same([lot.nth(index) for index in range(5)], [x for x in numbers if x >= 0][:5])
            self.same(lot.nth(lot.size * FAR + 3, 2), lot.nth(3, 2) + FAR * lot.period)
        self.same(Lot.around(10, 2).nth(begin=-1, index=1), 0)

    def test_each(self):
        for lot in self.lots:
            for begin in range(-25, 26, 5):
                wanted = [x for x in members_of(lot, begin, begin + 300)][:12]
                self.same(list(itertools.islice(lot.each(begin), 12)), wanted)
            self.same(list(itertools.islice(lot.each(), 5)), members_of(lot, 0, 100)[:5])
        self.same(list(Lot.none().each()), [])
        self.same(list(itertools.islice(Lot.every().each(begin=-2), 4)), [-2, -1, 0, 1])

    def test_runs_between(self):
        for lot in self.lots:
            numbers = members_of(lot, -30, 30)
            for low in range(-30, 31, 3):
                for high in range(low - 3, 31, 3):
                    wanted = runs_of([x for x in numbers if low <= x <= high])
                    self.same(list(lot.runs_between(low, high)), wanted, (str(lot), low, high))
        self.same(list(Lot.every().runs_between(-FAR, FAR)), [(-FAR, FAR)])
        self.same(list(Lot.every().runs_between(low=3, high=2)), [])
        self.same(list(Lot.none().runs_between(-FAR, FAR)), [])

    def test_great_lots(self):
        lot = Lot(FAR, (5, 10 ** 100), (FAR - 10, FAR + 1))
        self.same([lot.at_least(2), lot.at_least(-11), lot.at_least(10 ** 100 + 1)], [5, -10, FAR - 10])
        self.same([lot.at_most(4), lot.at_most(-11), lot.at_most(FAR - 11)], [1, 10 ** 100 - FAR, 10 ** 100])
        self.same(lot.how_many(0, FAR - 1), 10 ** 100 - 4 + 12)
        self.same([lot.nth(0), lot.nth(1), lot.nth(2), lot.nth(10 ** 100 - 3), lot.nth(10 ** 100 - 2)],
                  [0, 1, 5, 10 ** 100, FAR - 10])
        self.same(lot.nth(12, -10), 5)
        walk = lot.runs_between(-FAR * 10, FAR * 10)
        self.same([next(walk), next(walk), next(walk)], [
            (-10 * FAR, -10 * FAR + 1), (-10 * FAR + 5, -10 * FAR + 10 ** 100), (-9 * FAR - 10, -9 * FAR + 1)])
        self.same(list(lot.runs_between(7, FAR - 9)), [(7, 10 ** 100), (FAR - 10, FAR - 9)])
        self.same(next(lot.each(10 ** 100 + 1)), FAR - 10)

    def test_by_name_and_without_changes(self):
        for lot in self.lots:
            if not lot:
                continue
            before = (lot.period, lot.runs, lot.size)
            self.same((lot.at_least(n=7), lot.at_most(n=7)), (lot.at_least(7), lot.at_most(7)))
            self.same(lot.how_many(high=9, low=-4), lot.how_many(-4, 9))
            self.same(list(lot.runs_between(high=9, low=-4)), list(lot.runs_between(-4, 9)))
            self.same((lot.nth(3), next(lot.each()), 5 in lot, str(lot), len(lot), lot[:9]),
                      (lot.nth(index=3, begin=0), lot.at_least(0), lot.how_many(5, 5) == 1, str(lot), len(before[1]),
                       before[1]))
            self.same((lot.period, lot.runs, lot.size), before)

    def test_wrong_numbers(self):
        for lot in (Lot(7, (1, 2)), Lot.every(), Lot.none()):
            for value in others(is_int):
                self.raises(BadNumber(value), lot.at_least, value)
                self.raises(BadNumber(value), lot.at_most, value)
                self.raises(BadNumber(value), lot.each, value)
                for work in (lot.how_many, lot.runs_between):
                    self.raises(BadNumber(value), work, value, 5)
                    self.raises(BadNumber(value), work, value, None)
                    self.raises(BadNumber(value), work, 5, value)
                self.raises(BadNumber(value), lot.nth, value)
                self.raises(BadNumber(value), lot.nth, value, None)
                self.raises(BadNumber(value), lot.nth, 5, value)
            for value in (-1, -FAR):
                self.raises(BadNumber(value), lot.nth, value)
                self.raises(BadNumber(value), lot.nth, value, None)

    def test_no_member(self):
        none = Lot.none()
        for work in (none.at_least, none.at_most, none.nth):
            self.raises(NoMember(), work, 0)
        self.raises(NoMember(), none.nth, 0, -5)
        self.same(none.how_many(-FAR, FAR), 0)


if __name__ == "__main__":
    unittest.main()
