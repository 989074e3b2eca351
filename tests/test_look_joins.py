"""look_joins.py: shows_join of right tables and of all that is a little otherwise."""

import unittest

from helpers import ANY, Case, dice, others, random_lot
from wheelreach.errors import BadLot, TooMany
from wheelreach.joins import Join, join
from wheelreach.look_joins import shows_join
from wheelreach.lots import Lot

FAR = 10 ** 119


def with_item(items, at, *new):
    """A tuple with other items in the place of one."""
    return (*items[:at], *new, *items[at + 1:])


def run_changes(runs, period):
    """Tuples of runs that are a little otherwise than these."""
    rows = []
    for at, (begin, end) in enumerate(runs):
        for run in ((begin + 1, end), (begin - 1, end), (begin, end + 1), (begin, end - 1), (begin + 1, end + 1),
                    (begin - 1, end - 1), (begin + period, end + period), (begin - period, end - period),
                    (end, begin), (begin, begin), (end, end), (begin,), (begin, end, end), [begin, end], None,
                    (str(begin), end), (begin, None), (bool(begin), end) if begin in (0, 1) else begin,
                    (begin, bool(end)) if end in (0, 1) else end, float(begin)):
            rows.append(with_item(runs, at, run))
        rows.append(with_item(runs, at))
        rows.append(with_item(runs, at, (begin, end), (begin, end)))
        rows.append(with_item(runs, at, (begin, end), (end + 1, end + 1)))
        rows.append(with_item(runs, at, (begin, end), (end + 2, end + 2)))
        if end > begin:
            rows.append(with_item(runs, at, (begin, begin), (begin + 1, end)))
        if at + 1 < len(runs):
            rows.append((*runs[:at], (begin, runs[at + 1][1]), *runs[at + 2:]))
            rows.append((*runs[:at], runs[at + 1], runs[at], *runs[at + 2:]))
    rows += [list(runs), None, "", 0, runs + ((0, 0),), ((0, 0),) + runs, runs[::-1], ((0, period - 1),), (),
             runs[1:] + tuple((b + period, e + period) for b, e in runs[:1]),
             tuple((b - period, e - period) for b, e in runs[-1:]) + runs[:-1]]
    return rows


def table_changes(tables):
    """Tables that are a little otherwise than these."""
    rows = []
    for at, (period, runs) in enumerate(tables):
        for other in (period + 1, period - 1, 2 * period, -period, 0, str(period), float(period), None, [period],
                      True if period == 1 else (period,)):
            rows.append(with_item(tables, at, (other, runs)))
        for other in run_changes(runs, period):
            rows.append(with_item(tables, at, (period, other)))
        twice = tuple(sorted(runs + tuple((b + period, e + period) for b, e in runs)))
        rows.append(with_item(tables, at, (2 * period, twice)))
        rows += [with_item(tables, at, [period, runs]), with_item(tables, at, (period,)), with_item(tables, at),
                 with_item(tables, at, (period, runs, runs)), with_item(tables, at, (runs, period)),
                 with_item(tables, at, None), with_item(tables, at, (period, runs), (period, runs)),
                 with_item(tables, at, tables[0]), with_item(tables, at, tables[-1])]
    rows += [list(tables), tables[::-1], tables[1:], tables[:-1], tables + ((1, ()),), ((1, ((0, 0),)),) + tables,
             None, 0, "tables", Join(tables)]
    return rows


def alike(one, other):
    if type(one) is not type(other):
        return False
    if isinstance(one, tuple):
        return len(one) == len(other) and all(alike(x, y) for x, y in zip(one, other))
    return one == other


class LookJoins(Case):
    def check(self, *lots):
        found = join(*lots)
        self.same(shows_join(found, *lots), True)
        self.same(shows_join(Join(tuple(tuple(table) for table in found.tables)), *lots), True)
        for tables in table_changes(found.tables):
            self.same(shows_join(Join(tables), *lots), alike(tables, found.tables), (tables, found.tables))

    def test_examples(self):
        ten, seven = Lot.around(10, 2), Lot.around(7, 2)
        found = join(ten, seven)
        self.same([shows_join(found, ten, seven), shows_join(found, seven, ten),
                   shows_join(Join(found.tables[:1]), ten, seven), shows_join(Join(()))], [True, False, False, True])

    def test_none_to_four_lots(self):
        self.check()
        rng = dice(31)
        for many in (1, 2, 3, 4):
            for _ in range(25):
                self.check(*[random_lot(rng, 9, 3) for _ in range(many)])

    def test_all_and_none(self):
        every, none, lot = Lot.every(), Lot.none(), Lot(6, (2, 4))
        for lots in ((every,), (none,), (every, every), (none, every), (lot, every), (every, lot), (lot, none),
                     (none, lot), (lot, ~lot), (lot, ~lot, lot), (Lot(2, (0, 0)), Lot(2, (1, 1)), every)):
            self.check(*lots)

    def test_all_integers_in_one_form_alone(self):
        every = Lot.every()
        for runs in (((0, 0),), ((1, 1),), ((-1, -1),), ((0, 1),), ((0, 0), (1, 1)), ((0, 0), (0, 0)), ()):
            self.same(shows_join(Join(((1, runs),)), every), runs == ((0, 0),))
        lot = Lot(4, (1, 3))
        for runs in (((1, 3),), ((1, 4),), ((0, 3),), ((0, 1), (2, 3)), ((2, 3), (5, 5)), ((1, 1), (2, 3)), ((3, 5),)):
            self.same(shows_join(Join(((4, runs),)), lot), runs == ((1, 3),))

    def test_runs_that_make_up_for_a_lost_one(self):
        # they lie in the lot and have as many members in all, but some of them twice
        lot = Lot(20, (4, 5), (8, 9), (18, 22))
        for runs in (((0, 1), (8, 9), (18, 22)), ((1, 2), (4, 5), (18, 22)), ((8, 9), (18, 20), (19, 22)),
                     ((4, 5), (18, 21), (19, 21)), ((8, 8), (8, 9), (8, 9), (18, 21)), ((4, 5), (4, 5), (18, 22)),
                     ((-2, 2), (4, 5), (8, 9)), ((4, 5), (8, 9), (38, 42)), ((0, 2), (4, 5), (8, 9), (18, 19)),
                     ((4, 4), (5, 5), (8, 9), (18, 22)), ((4, 5), (8, 9), (18, 22)), ((0, 2), (8, 9), (18, 21))):
            self.same(shows_join(Join(((20, runs),)), lot), runs == lot.runs)
        for begin in range(10):
            one = Lot(10, (begin, begin + 3))
            for other in range(-12, 23):
                self.same(shows_join(Join(((10, ((other, other + 3),)),)), one), other == begin)
            for cut in range(1, 4):
                runs = tuple(sorted([(begin, begin + cut - 1), ((begin + cut) % 10, (begin + cut) % 10 + 3 - cut)]))
                self.same(shows_join(Join(((10, runs),)), one), False)

    def test_great_lots(self):
        self.check(Lot.around(10 ** 100, 5), Lot.around(9 * 10 ** 99, 5))
        self.check(Lot(FAR, (3, 9)), Lot(FAR + 1, (3, 3)), Lot.every())
        one, other = Lot(10 ** 60, (0, 10 ** 59)), Lot(10 ** 60 + 10 ** 58, (7, 10 ** 57), (10 ** 58 * 3, 10 ** 58 * 4))
        found = join(one, other)
        self.assertGreater(len(found.tables[1][1]), 10)
        self.same(shows_join(found, one, other), True)
        for at in range(len(found.tables[1][1])):
            for run in ((), (found.tables[1][1][at][0], found.tables[1][1][at][1] - 1)):
                tables = (found.tables[0], (found.tables[1][0], with_item(found.tables[1][1], at, run)))
                self.same(shows_join(Join(tables), one, other), False)
            tables = (found.tables[0], (found.tables[1][0], with_item(found.tables[1][1], at)))
            self.same(shows_join(Join(tables), one, other), False)

    def test_other_lots(self):
        rng = dice(32)
        for _ in range(300):
            lots = [random_lot(rng, 8, 2) for _ in range(2)]
            more = [random_lot(rng, 8, 2) for _ in range(2)]
            found, other = join(*lots), join(*more)
            self.same(shows_join(found, *more), found == other)
            self.same(shows_join(found, *lots, Lot.every()), False)
            self.same(shows_join(found, lots[0]), False)

    def test_no_papers(self):
        for value in ANY + [(), ((10, ((8, 12),)),)]:
            wanted = isinstance(value, Join) and value.tables == ()
            self.same(shows_join(value), wanted)
            self.same(shows_join(value, Lot.around(10, 2)), False)
            self.same(shows_join(Join(value)), isinstance(value, tuple) and value == ())
            self.same(shows_join(Join(value), Lot.every()), False)
            self.same(shows_join(Join((value,)), Lot.every()), False)
            self.same(shows_join(Join(((1, value),)), Lot.every()), False)
            self.same(shows_join(Join(((value, ((0, 0),)),)), Lot.every()), value == 1 and value is not True)

    def test_wrong_lots(self):
        for value in others(lambda value: isinstance(value, Lot)):
            for looked in (Join(()), None, Join(7)):
                self.raises(BadLot(0), shows_join, looked, value)
                self.raises(BadLot(0), shows_join, looked, value, None)
                self.raises(BadLot(1), shows_join, looked, Lot.every(), value, 7)

    def test_never_too_many(self):
        near, far = Lot.around(10 ** 50, 10 ** 40), Lot.around(10 ** 50 + 1, 10 ** 40)
        self.raises(TooMany("runs", 2000), join, near, far)
        one, other = (10 ** 50, near.runs), (10 ** 50 * (10 ** 50 + 1), ())
        self.same(shows_join(Join((one, other)), near, far), False)
        self.same(shows_join(Join((one, other, other)), near, far, Lot.none()), False)
        self.same(shows_join(Join((one, (10 ** 50, ()), other)), near, Lot.none(), far), True)


if __name__ == "__main__":
    unittest.main()
