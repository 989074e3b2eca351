"""nearest.py: strains, against all values tried one by one with wider and wider meters."""

import unittest

from helpers import ANY, Case, dice, is_int, others
from meter_helpers import random_meter
from reading_helpers import by_hand, lets_fit, random_reading, runs_of
from wheelreach.errors import BadMark, BadMeter, BadNumber, BadWheel, TooMany
from wheelreach.meters import Meter
from wheelreach.nearest import Nearest, nearest, strain
from wheelreach.readings import tables_of
from wheelreach.wheels import Even, Exact, Grid, Lagging, Wheel

MOST = 10 ** 100
FAR = 10 ** 12
TWO = Meter(Even(100, 1), Even(90, 1))
FOUR = Meter(Exact(7), Exact(9), Exact(11), Exact(13), off=1)
HEAVY = Meter(Wheel(FAR, 2000, 0), Exact(FAR - 1))
STRAIN, RUNS, FITS = TooMany("strain", 1000), TooMany("runs", 2000), TooMany("runs", 500)


def some_readings(seed, many, wheels=4, most=14):
    rng = dice(seed)
    rows = []
    for _ in range(many):
        meter = random_meter(rng, wheels, most)
        rows.append((meter, random_reading(rng, meter)))
        if rng.random() < 0.5:
            rows.append((meter, tuple(None if mark is None else rng.randrange(wheel.period)
                                      for wheel, mark in zip(meter, rows[-1][1]))))
    return rows


def strain_by_hand(meter, marks, value):
    for k in range(40):
        if lets_fit(by_hand(meter, k), marks, value):
            return k
    return None


class Examples(Case):
    def test_examples(self):
        self.same([strain(TWO, (40, 70), 343), strain(TWO, (40, 70), 341), nearest(TWO, (40, 75), 898).strain,
                   nearest(TWO, (40, 75), 898).runs], [2, 0, 2, ((342, 343), (437, 438))])
        self.same([strain(FOUR, (1, 0, 6, 11), 50), nearest(TWO, (40, 70), 898).less], [0, ()])


class Strains(Case):
    def test_one_by_one(self):
        seen = {}
        for meter, marks in some_readings(221, 200):
            for value in (*range(-12, 30, 3), 100):
                wanted = strain_by_hand(meter, marks, value)
                seen[wanted] = seen.get(wanted, 0) + 1
                self.same(strain(meter, marks, value), wanted, (str(meter), marks, value))
                self.same(strain(meter, list(marks), value), wanted)
        self.assertGreater(min(seen.get(key, 0) for key in (None, 0, 1, 2, 3)), 50)
        self.same(strain(value=343, marks=(40, 70), meter=TWO), 2)

    def test_edges(self):
        self.same([strain(Meter(Exact(FAR)), (0,), value) for value in (0, 1, -1, FAR // 2, FAR // 2 + 1)],
                  [0, 1, 1, FAR // 2, FAR // 2 - 1])
        self.same(strain(Meter(Exact(FAR)), (0,), FAR // 2 + FAR * 10 ** 100), FAR // 2)
        self.same([strain(Meter(Lagging(100, 3)), (0,), value) for value in (0, 3, 4, -1, 51, 52, 53)],
                  [0, 0, 1, 1, 48, 48, 47])
        self.same([strain(Meter(Grid(5), Exact(9), off=1), (2, 0), value) for value in (2, 7, 3)], [0, 0, None])
        self.same([strain(Meter(Grid(5), Exact(9), lost=1), (2, None), value) for value in (2, 7, 3)], [0, 0, None])
        self.same(strain(Meter(Exact(9), lost=1), (None,), 10 ** 119), 0)
        self.same([strain(Meter(Exact(9), Exact(9), Exact(9), off=off), (1, 2, 4), 0) for off in (0, 1, 2, 3, 8)],
                  [4, 2, 1, 0, 0])
        # the wider meter could not be made, since the first wheel has the greatest slip already
        meter = Meter(Wheel(5, FAR, 0), Exact(9))
        self.raises(BadWheel("back"), meter.wider, 4)
        self.same((strain(meter, (0, 4), 0), nearest(meter, (0, 4), 1).strain), (4, 4))


class Nearests(Case):
    def check(self, meter, marks, reach):
        """The Nearest against all values and wider meters, tried in their order."""
        strains = [strain_by_hand(meter, marks, value) for value in range(reach)]
        if all(k is None for k in strains):
            self.raises(STRAIN, nearest, meter, marks, reach)
            return None
        least = min(k for k in strains if k is not None)
        found = nearest(meter, marks, reach)
        self.assertIs(type(found), Nearest)
        self.same((found.strain, bool(found)), (least, True))
        self.same(found.runs, runs_of([value for value in range(reach) if strains[value] == least]))
        self.assertEqual(found.tables, tables_of(by_hand(meter, least), marks))
        self.assertEqual(found.less, tables_of(by_hand(meter, least - 1), marks) if least else ())
        return found

    def test_one_by_one(self):
        seen = {}
        for meter, marks in some_readings(222, 150):
            for reach in (1, 2, 7, 30):
                found = self.check(meter, marks, reach)
                key = None if found is None else found.strain
                seen[key] = seen.get(key, 0) + 1
        self.assertGreater(min(seen.get(key, 0) for key in (None, 0, 1, 2, 3)), 10)
        self.same(nearest(reach=898, marks=[40, 75], meter=TWO).strain, 2)

    def test_runs_are_apart(self):
        found = nearest(TWO, (40, 75), 10 ** 4)
        self.same((found.strain, len(found.runs)), (2, 22))
        self.same(found.runs[:4], ((342, 343), (437, 438), (1242, 1243), (1337, 1338)))
        for (_, end), (begin, _) in zip(found.runs, found.runs[1:]):
            self.assertGreater(begin, end + 1)

    def test_trusted_wheels_that_are_off(self):
        self.raises(STRAIN, nearest, Meter(Grid(4), Grid(6)), (1, 2), MOST)
        self.raises(STRAIN, nearest, Meter(Grid(4), Exact(5)), (3, 0), 3)
        self.same(nearest(Meter(Grid(4), Exact(5)), (3, 0), 4).strain, 2)
        self.same(nearest(Meter(Grid(4), Exact(5), lost=1), (3, None), 4).runs, ((3, 3),))
        # 8 leaves 3 by 5 and 2 by 6
        for reach, wanted in ((8, None), (9, 0)):
            meter = Meter(Grid(5), Grid(6), Exact(2))
            if wanted is None:
                self.raises(STRAIN, nearest, meter, (3, 2, 0), reach)
            else:
                self.same((nearest(meter, (3, 2, 0), reach).strain, nearest(meter, (3, 2, 1), reach).strain), (0, 1))

    def test_great_strains(self):
        # the marks are 2 k apart, so that k on each side meets
        for k in (1, 2, 7, 255, 256, 511, 999, 1000):
            for apart in (2 * k, 2 * k - 1):
                found = nearest(Meter(Exact(FAR), Exact(FAR)), (0, apart), FAR)
                self.same((found.strain, found.runs), (k, ((k, k),) if apart == 2 * k else ((k - 1, k),)))
                self.same(found.tables[0].tables[1][1][0][0], k if apart == 2 * k else k - 1)
                self.same(found.less[0].tables[1][1], ())
        self.raises(STRAIN, nearest, Meter(Exact(FAR), Exact(FAR)), (0, 2001), FAR)
        self.raises(STRAIN, nearest, Meter(Exact(FAR)), (2000,), 1)
        self.same(nearest(Meter(Exact(FAR)), (1000,), 1).strain, 1000)
        self.same(nearest(Meter(Exact(FAR)), (FAR - 1000,), 1).strain, 1000)
        self.raises(STRAIN, nearest, Meter(Exact(FAR)), (FAR - 1001,), 1)

    def test_far_reaches(self):
        found = nearest(Meter(Exact(2), Exact(2), Exact(FAR), lost=1), (0, 1, None), MOST)
        self.same((found.strain, found.runs), (1, ((0, MOST - 1),)))
        self.same(nearest(Meter(Exact(9), lost=1), (None,), MOST).runs, ((0, MOST - 1),))
        wheels = [Exact(FAR - n) for n in (11, 39, 61, 63)]
        value = 7 * 10 ** 40 + 12345
        marks = Meter(*wheels)(value)
        self.same(nearest(Meter(*wheels), marks, 10 ** 45).runs, ((value, value),))
        moved = (marks[0] + 1, *marks[1:])
        self.same(nearest(Meter(*wheels), moved, 10 ** 45).runs[0][0] < 10 ** 45, True)


class Many(Case):
    def test_heavy_as_it_is(self):
        for reach in (1, MOST):
            self.raises(RUNS, nearest, HEAVY, (0, 0), reach)
        self.raises(RUNS, nearest, HEAVY.with_numbers(0, 0, 1), (0, 0), 1)
        self.same(nearest(HEAVY.with_numbers(0, 0, 1), (0, None), 1).strain, 0)
        # that no value has a strain comes first
        both = HEAVY + Meter(Grid(4), Grid(6))
        self.raises(STRAIN, nearest, both, (0, 0, 1, 2), MOST)
        self.raises(RUNS, nearest, both, (0, 0, 1, 3), MOST)
        self.raises(STRAIN, nearest, both, (0, 0, 1, 3), 9)
        self.raises(RUNS, nearest, both, (0, 0, 1, 3), 10)

    def test_heavy_with_a_strain(self):
        # with k more they have 1601 + 4 k runs in common: 1997 with 99, 2001 with 100
        meter = Meter(Wheel(FAR, 0, 1600), Exact(FAR - 1))
        for away, wanted in ((98, 98), (99, 99), (100, None), (101, None), (3000, None)):
            if wanted is None:
                self.raises(RUNS, nearest, meter, (1600 + away, 0), 1)
            else:
                found = nearest(meter, (1600 + away, 0), 1)
                self.same((found.strain, found.runs, len(found.tables[0].tables[1][1])),
                          (wanted, ((0, 0),), 1601 + 4 * wanted))

    def test_heavy_for_some_steps_alone(self):
        # with 25 to 299 more the first two are heavy; from 300 more on the second one lets all values
        meter = Meter(Wheel(FAR, 0, 1900), Exact(601))
        self.same(len(tables_of(meter.wider(24), (0, 0))[0].tables[1][1]), 1997)
        for k, heavy in ((24, False), (25, True), (299, True), (300, False), (1000, False)):
            if heavy:
                self.raises(RUNS, tables_of, meter.wider(k), (0, 0))
            else:
                tables_of(meter.wider(k), (0, 0))
        for away, heavy in ((0, False), (24, False), (25, True), (299, True), (300, True), (900, True), (1001, True)):
            if heavy:
                self.raises(RUNS, nearest, meter, (1900 + away, 0), 1)
            else:
                self.same(nearest(meter, (1900 + away, 0), 1).strain, away)

    def test_heavy_for_one_step_alone(self):
        # the first wheel lets all values with one more than last; with last more both are just heavy, or just not
        for wheel in (Exact(9), Exact(10), Exact(2), Wheel(12, 2, 1), Wheel(13, 0, 2), Wheel(13, 3, 0), Lagging(8, 6)):
            last = max([k for k in range(10) if wheel.period > wheel.play + 1 + 2 * k])
            slip = 2000 - wheel.play - 4 * last
            for more in (0, -1):
                meter = Meter(wheel, Wheel(FAR - 11, 0, slip + more))
                for away in (max(0, last - 1), last, last + 1, last + 2, 700, 1000, 1001):
                    marks = (0, slip + more + away)
                    if more == 0 and away >= last:
                        self.raises(RUNS, nearest, meter, marks, 1)
                    elif away > 1000:
                        self.raises(STRAIN, nearest, meter, marks, 1)
                    else:
                        self.same(nearest(meter, marks, 1).strain, away)
        # a wheel that lets all values with 1000 more than its slips, or with one more than that
        for period in (2001, 2002, 2003):
            self.raises(RUNS, nearest, Meter(Exact(period), Exact(FAR - 11)), (0, 3000), 1)
        self.raises(STRAIN, nearest, Meter(Exact(1001), Exact(FAR - 11)), (0, 3000), 1)

    def test_wheels_that_let_all_values_are_never_heavy(self):
        # up to 449 more they have 4 k + 1 runs in common, 1797 at most; then the second one lets all values
        meter = Meter(Exact(FAR), Exact(901))
        for away in (448, 449, 450, 451, 700, 1000):
            found = nearest(meter, (away, 0), 1)
            self.same((found.strain, len(found.tables[0].tables[1][1])), (away, 4 * away + 1 if away < 450 else 1))
        self.raises(STRAIN, nearest, meter, (1001, 0), 1)
        self.raises(RUNS, nearest, Meter(Exact(FAR), Exact(1003)), (501, 0), 1)
        self.same(nearest(Meter(Exact(FAR), Exact(1001)), (501, 0), 1).strain, 501)

    def test_each_step_up_to_the_strain(self):
        rng = dice(223)
        seen = {}
        for _ in range(60):
            # small wheels that let all values after a while, beside one that is far from its mark
            meter = Meter(*[Wheel(rng.choice([FAR, FAR - 1, rng.randint(50, 1200), rng.randint(2, 60)]),
                                  rng.choice([0, 0, 700, 1000]), 0) for _ in range(rng.randint(1, 3))],
                          off=rng.choice([0, 0, 1]))
            marks = tuple(rng.choice([0, min(wheel.period - 1, rng.randint(0, 1100))]) for wheel in meter)
            wanted = STRAIN
            for k in range(1001):
                try:
                    tables_of(meter.wider(k), marks)
                except TooMany:
                    wanted = RUNS
                    break
                if lets_fit(meter.wider(k), marks, 0):
                    wanted = k
                    break
            seen[str(wanted)[:3]] = seen.get(str(wanted)[:3], 0) + 1
            if is_int(wanted):
                self.same(nearest(meter, marks, 1).strain, wanted)
            else:
                self.raises(wanted, nearest, meter, marks, 1)
        self.assertGreater(len(seen), 5)

    def test_500_runs(self):
        meter = Meter(Exact(2), Exact(4))
        self.same((nearest(meter, (0, 1), 1997).strain, len(nearest(meter, (0, 1), 2000).runs)), (1, 500))
        self.raises(FITS, nearest, meter, (0, 1), 2001)
        self.raises(FITS, nearest, meter, (0, 1), MOST)
        self.same(len(nearest(Meter(Exact(7)), (0,), 3494).runs), 500)
        self.raises(FITS, nearest, Meter(Exact(7)), (0,), 3501)


class Wrong(Case):
    def test_errors(self):
        for value in [*ANY, Exact(5)]:
            for number in (None, 1):
                self.raises(BadMeter("meter"), strain, value, None, number)
                self.raises(BadMeter("meter"), nearest, value, (0, 0), number)
        for meter in (TWO, HEAVY):
            for marks, at in ((None, None), ((40,), None), ((40, -1), 1), ((FAR, None), 0), ((40, None), "lost")):
                for number in (None, 1):
                    self.raises(BadMark(at), strain, meter, marks, number)
                    self.raises(BadMark(at), nearest, meter, marks, number)
            for value in others(is_int):
                self.raises(BadNumber(value), strain, meter, (40, 70), value)
            for value in others(lambda value: is_int(value) and 1 <= value <= MOST) + [MOST + 1, 0]:
                self.raises(BadNumber(value), nearest, meter, [40, 70], value)
        self.raises(BadNumber(0), nearest, Meter(Grid(4), Grid(6)), (1, 2), 0)
        # a strain is told although the reading is heavy
        self.same((strain(HEAVY, (0, 0), 2005), strain(HEAVY, (0, 0), FAR - 1)), (2005, 1))

    def test_no_argument_is_changed(self):
        marks = [40, 75]
        found = nearest(TWO, marks, 898)
        strain(TWO, marks, 5)
        self.same(marks, [40, 75])
        marks[0] = 1
        self.assertEqual(found, nearest(TWO, (40, 75), 898))


if __name__ == "__main__":
    unittest.main()
