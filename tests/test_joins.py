"""joins.py: the sum, the tables of a join, and the lot of what lies in all."""

import math
import unittest

from helpers import Case, dice, form_of_set, others, random_lot, small_lots
from wheelreach.errors import BadLot, TooMany
from wheelreach.joins import Join, join, joined, meeting
from wheelreach.lots import Lot

FAR = 10 ** 119
TOO_MANY = TooMany("runs", 2000)


def inside(lot):
    return {x % lot.period for begin, end in lot.runs for x in range(begin, end + 1)}


def tables_of(lots):
    """The tables of a join, with each integer of each round asked."""
    tables = []
    for many in range(1, len(lots) + 1):
        period = math.lcm(*[lot.period for lot in lots[:many]])
        sets = [(lot.period, inside(lot)) for lot in lots[:many]]
        members = {x for x in range(period) if all(x % length in within for length, within in sets)}
        tables.append(form_of_set(period, members))
    return tuple(tables)


def random_lots(rng):
    """Up to four lots with a round of at most 5000 integers together."""
    lots = []
    for _ in range(rng.randint(0, 4)):
        lot = random_lot(rng, 30, 5)
        if math.lcm(lot.period, *[other.period for other in lots]) <= 5000:
            lots.append(lot)
    return lots


class Meeting(Case):
    def test_examples(self):
        ten, seven = Lot.around(10, 2), Lot.around(7, 2)
        self.same([meeting(ten, seven), meeting(Lot.around(100, 2), Lot.around(90, 2))], [25, 5])
        self.same([meeting(ten, Lot.every()), meeting(ten, Lot.none())], [5, 0])

    def test_against_the_members(self):
        lots = [lot for _, _, lot in small_lots()]
        for one in lots[::3]:
            for other in lots:
                self.check(one, other)
        rng = dice(21)
        for _ in range(1500):
            self.check(random_lot(rng, 60, 8), random_lot(rng, 60, 8))

    def check(self, one, other):
        whole = math.lcm(one.period, other.period)
        mine, theirs = inside(one), inside(other)
        wanted = len([x for x in range(whole) if x % one.period in mine and x % other.period in theirs])
        self.same(meeting(one, other), wanted)
        self.same((one & other).how_many(0, whole - 1), wanted)

    def test_all_and_none(self):
        every, none = Lot.every(), Lot.none()
        self.same([meeting(every, every), meeting(every, none), meeting(none, none)], [1, 0, 0])
        self.same(meeting(none, every), 0)
        lot = Lot(FAR, (3, 10 ** 100))
        self.same([meeting(lot, every), meeting(every, lot), meeting(lot, none)], [10 ** 100 - 2] * 2 + [0])

    def test_long_runs_and_great_periods(self):
        one, other = Lot.around(10 ** 60, 10 ** 50), Lot.around(10 ** 60 + 1, 10 ** 55)
        self.same(meeting(one, other), one.size * other.size)
        self.same(meeting(other, one), one.size * other.size)
        one, other = Lot.around(6 * FAR, FAR // 3), Lot.around(4 * FAR, FAR // 5)
        self.same(meeting(one, other), (one & other).how_many(0, 12 * FAR - 1))
        one, other = Lot.around(10 ** 60, 10 ** 59), Lot.around(10 ** 60 + 10 ** 57, 10 ** 58)
        self.same(meeting(one, other), (one & other).how_many(0, math.lcm(10 ** 60, 10 ** 60 + 10 ** 57) - 1))
        many = Lot(FAR, *[(k * k * 5, k * k * 5 + k) for k in range(1, 2001)])
        more = Lot(FAR + 1, *[(k * k * 7, k * k * 7 + 10 * k) for k in range(1, 2001)])
        self.same(meeting(many, more), many.size * more.size)
        self.same(meeting(many, many), many.size)
        self.same(meeting(many, Lot(FAR * 3, *many.runs)), many.size)
        self.same(meeting(many, ~many), 0)

    def test_wrong_lots(self):
        for value in others(lambda value: isinstance(value, Lot)):
            self.raises(BadLot("one"), meeting, value, Lot.every())
            self.raises(BadLot("one"), meeting, value, value)
            self.raises(BadLot("other"), meeting, Lot.every(), value)
        self.same(meeting(other=Lot(3, (1, 2)), one=Lot(2, (0, 0))), 2)


class Joining(Case):
    def test_examples(self):
        ten, seven = Lot.around(10, 2), Lot.around(7, 2)
        found = join(ten, seven)
        self.same([found.tables[0], found.tables[1][0], found.tables[1][1][:3], len(found.tables[1][1])],
                  [(10, ((8, 12),)), 70, ((8, 9), (12, 12), (19, 22)), 9])
        self.same([str(joined(ten, seven)), str(joined()), join(Lot.around(100, 2), Lot.around(90, 2)).tables[1]],
                  ["modulo 70 : 8 to 9 , 12 to 12 , 19 to 22 , 28 to 30 , 40 to 42 , 48 to 51 , 58 to 58 , 61 to 62 "
                   ", 68 to 72", "every", (900, ((898, 902),))])
        self.raises(BadLot(1), join, ten, 7)

    def test_against_all_integers(self):
        rng = dice(22)
        for _ in range(700):
            lots = random_lots(rng)
            found = join(*lots)
            wanted = tables_of(lots)
            self.assertIs(type(found), Join)
            self.same(found.tables, wanted)
            last = joined(*lots)
            if wanted:
                self.same(last, Lot(wanted[-1][0], *wanted[-1][1]))
            else:
                self.same(last, Lot.every())

    def test_all_pairs_of_small_lots(self):
        lots = [lot for _, _, lot in small_lots()]
        for one in lots[::5]:
            for other in lots[::2]:
                self.same(join(one, other).tables, tables_of([one, other]))

    def test_no_lots(self):
        self.same(join().tables, ())
        self.same(joined(), Lot.every())

    def test_all_and_none(self):
        every, none, lot = Lot.every(), Lot.none(), Lot(6, (2, 4))
        self.same(join(every).tables, ((1, ((0, 0),)),))
        self.same(join(every, every).tables, ((1, ((0, 0),)),) * 2)
        self.same(join(none, every, lot).tables, ((1, ()), (1, ()), (6, ())))
        self.same(join(every, lot, every, none).tables, ((1, ((0, 0),)), (6, ((2, 4),)), (6, ((2, 4),)), (6, ())))
        self.same(join(lot, ~lot, Lot(4, (1, 1))).tables, ((6, ((2, 4),)), (6, ()), (12, ())))

    def test_the_order_of_the_lots(self):
        one, other, third = Lot(6, (2, 4)), Lot(4, (0, 1)), Lot(10, (0, 7))
        self.same([table[0] for table in join(one, other, third).tables], [6, 12, 60])
        self.same([table[0] for table in join(third, other, one).tables], [10, 20, 60])
        self.same(join(one, other, third).tables[2], join(third, one, other).tables[2])
        self.assertFalse(join(one, other) == join(other, one))
        self.assertTrue(join(one, other) == join(one, other))

    def test_periods_are_not_reduced(self):
        one = Lot(12, (0, 0), (1, 1), (4, 4), (8, 8))
        other = Lot(12, (0, 0), (2, 2), (4, 4), (8, 8))
        self.same(join(one, other).tables[1], (12, ((0, 0), (4, 4), (8, 8))))
        self.same(joined(one, other).period, 4)
        self.same(join(Lot(2, (0, 0)), Lot(2, (0, 0)), Lot(3, (1, 1))).tables[1:], ((2, ((0, 0),)), (6, ((4, 4),))))

    def test_great_lots(self):
        one, other = Lot.around(10 ** 100, 5), Lot.around(9 * 10 ** 99, 5)
        self.same(join(one, other).tables[1], (9 * 10 ** 100, ((9 * 10 ** 100 - 5, 9 * 10 ** 100 + 5),)))
        lots = [Lot(FAR + k, (k, k)) for k in range(1, 12)]
        found = join(*lots).tables
        for at, (period, runs) in enumerate(found):
            self.same(period, math.lcm(*[lot.period for lot in lots[:at + 1]]))
            for begin, end in runs:
                self.same((begin, [begin % lot.period for lot in lots[:at + 1]]),
                          (end, [lot.runs[0][0] for lot in lots[:at + 1]]))
            self.same(len(runs), 1)
        long = join(Lot(10 ** 60, (0, 10 ** 60 // 2)), Lot(10 ** 60 + 10 ** 58, (7, 10 ** 59))).tables[1]
        lot = Lot(*[long[0]], *long[1])
        self.same(lot.size, meeting(Lot(10 ** 60, (0, 10 ** 60 // 2)), Lot(10 ** 60 + 10 ** 58, (7, 10 ** 59))))

    def test_wrong_lots(self):
        near, far = Lot.around(10 ** 50, 10 ** 40), Lot.around(10 ** 50 + 1, 10 ** 40)
        for value in others(lambda value: isinstance(value, Lot)):
            for work in (join, joined):
                self.raises(BadLot(0), work, value)
                self.raises(BadLot(0), work, value, None, Lot.every())
                self.raises(BadLot(1), work, Lot.every(), value, 7)
                self.raises(BadLot(2), work, near, far, value)

    def test_too_many_runs(self):
        near, far = Lot.around(10 ** 50, 10 ** 40), Lot.around(10 ** 50 + 1, 10 ** 40)
        for work in (join, joined):
            self.raises(TOO_MANY, work, near, far)
            # also where only an earlier table has more
            self.raises(TOO_MANY, work, near, far, Lot.none())
            self.raises(TOO_MANY, work, Lot.every(), near, far, Lot.none())
        self.same(joined(near, Lot.none(), far), Lot.none())
        self.same(joined(Lot.none(), near, far), Lot.none())
        one = Lot(7, (3, 3))
        for work in (join, joined):
            self.raises(TOO_MANY, work, one, Lot(10 ** 60, (0, 2000)))
            self.raises(TOO_MANY, work, Lot(10 ** 60, (0, 2000)), one)
        self.same(len(join(one, Lot(10 ** 60, (0, 1999))).tables[1][1]), 2000)
        self.same(len(joined(one, Lot(10 ** 60, (0, 1999)))), 2000)

    def test_too_many_counts_the_whole_round(self):
        # all even integers, and a few odd ones that never meet: the last lot is all even integers
        def even_and(odd, many):
            return Lot(4 * many, *[(2 * k, 2 * k) for k in range(2 * many)], (odd, odd))
        self.same(len(join(even_and(1, 8), even_and(3, 125)).tables[1][1]), 2000)
        self.same(joined(even_and(1, 8), even_and(3, 125)), Lot(2, (0, 0)))
        self.raises(TOO_MANY, join, even_and(1, 7), even_and(3, 143))
        self.raises(TOO_MANY, joined, even_and(1, 7), even_and(3, 143))

    def test_lots_stay_as_they_are(self):
        lots = [Lot.around(10, 2), Lot.around(7, 2), Lot.every(), Lot.none()]
        before = [(lot.period, lot.runs, lot.size) for lot in lots]
        join(*lots)
        joined(*lots)
        meeting(lots[0], lots[1])
        self.same([(lot.period, lot.runs, lot.size) for lot in lots], before)


if __name__ == "__main__":
    unittest.main()
