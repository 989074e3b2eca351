"""readings.py: what readings fit, against all values tried one by one."""

import math
import unittest
from itertools import islice

from helpers import ANY, Case, dice, is_int, others
from meter_helpers import places_off, random_meter
from reading_helpers import choices_by_hand, lets_fit, random_reading, runs_of
from wheelreach.errors import BadMark, BadMeter, BadNumber, TooMany, Unfit
from wheelreach.joins import Join, join
from wheelreach.meters import Meter
from wheelreach.readings import (
    Noticed, Spread, Told, choices_of, each_fit, fits, last_fit, maybe_off, next_fit, off_at, surely_off, tables_of,
    told)
from wheelreach.wheels import Even, Exact, Grid, Lagging, Wheel

MOST = 10 ** 100
FAR = 10 ** 12
TWO = Meter(Even(100, 1), Even(90, 1))
FOUR = Meter(Exact(7), Exact(9), Exact(11), Exact(13), off=1)
# 2,000 members of the first wheel's run each have a place of their own in that of the second one
JUST = Meter(Wheel(FAR, 0, 1999), Exact(FAR - 1), lost=1)
HEAVY = Meter(Wheel(FAR, 2000, 0), Exact(FAR - 1), lost=1)


def some_readings(seed, many, wheels=4, most=12):
    rng = dice(seed)
    rows = []
    for _ in range(many):
        meter = random_meter(rng, wheels, most)
        rows.append((meter, random_reading(rng, meter)))
    return rows


class Examples(Case):
    def test_examples(self):
        self.same([fits(TWO, (40, 70), 0, 897), next_fit(TWO, [40, 70], 342), last_fit(TWO, (40, 70), 1240),
                   off_at(TWO, (40, 70), 342), fits(TWO, (40, 75), 0, 10 ** 30)],
                  [((339, 341),), 1239, 1240, (0, 1), ()])
        found = told(TWO, (40, 70), 898, 2)
        self.same([found.low, found.high, bool(found), bool(told(TWO, (40, 75), 898, 2))], [339, 341, True, False])
        self.same([list(choices_of(FOUR, (1, 0, 6, 11))), fits(FOUR, (1, 0, 6, 11), 0, 62),
                   surely_off(FOUR, (1, 0, 6, 11), 63), maybe_off(FOUR, (1, 5, 6, 11), 63)],
                  [[(0, 1, 2), (0, 1, 3), (0, 2, 3), (1, 2, 3)], ((50, 50),), (1,), ()])
        self.raises(BadMark("lost"), told, TWO, (40, None), 898, 2)


class Fitting(Case):
    def setUp(self):
        self.rows = some_readings(201, 250) + some_readings(202, 30, 8, 6) + [
            (Meter(Exact(5), Exact(5)), (0, 1)), (Meter(Exact(5), Exact(5), off=1), (0, 1)),
            (Meter(Exact(5), lost=1), (None,)), (Meter(Exact(5), off=1), (3,)), (Meter(Even(5, 2)), (3,)),
            (Meter(Grid(4), Exact(5), off=1), (1, 3)), (Meter(Grid(4), Grid(6)), (1, 2)),
            (Meter(Grid(4), Exact(5), lost=1), (1, None)), (Meter(Lagging(9, 12), Exact(2)), (0, 1))]

    def test_fits(self):
        rng = dice(203)
        for meter, marks in self.rows:
            for _ in range(6):
                low = rng.randint(-90, 60)
                high = low + rng.choice([-9, -1, 0, 1, 30, 200])
                wanted = runs_of([x for x in range(low, high + 1) if lets_fit(meter, marks, x)])
                self.same(fits(meter, marks, low, high), wanted, (str(meter), marks, low, high))
                self.same(fits(meter, list(marks), low, high), wanted)
        self.same(fits(high=897, low=0, marks=(40, 70), meter=TWO), ((339, 341),))

    def test_far_out(self):
        rng = dice(204)
        for meter, marks in self.rows[::4]:
            whole = math.lcm(*[wheel.period for wheel in meter])
            for sign in (-1, 1):
                far = sign * whole * (10 ** 100 // whole + rng.randint(0, 99))
                near = fits(meter, marks, -20, 60)
                self.same(fits(meter, marks, far - 20, far + 60), tuple((b + far, e + far) for b, e in near))
                for place in (-5, 0, 17):
                    for work in (next_fit, last_fit):
                        found = work(meter, marks, place)
                        self.same(work(meter, marks, place + far), None if found is None else found + far)

    def test_next_last_and_each(self):
        for meter, marks in self.rows:
            whole = math.lcm(*[wheel.period for wheel in meter])
            span = min(whole, 3000)
            found = [x for x in range(-span - 60, span + 60) if lets_fit(meter, marks, x)]
            if not found and span < whole:
                continue
            for place in range(-50, 51, 7):
                ahead = [x for x in found if x >= place]
                below = [x for x in found if x <= place]
                if ahead or span == whole:
                    self.same(next_fit(meter, marks, place), ahead[0] if ahead else None)
                if below or span == whole:
                    self.same(last_fit(meter, list(marks), place), below[-1] if below else None)
                self.same(list(islice(each_fit(meter, marks, place), len(ahead))), ahead)
                self.same(next(each_fit(meter, marks, place), None), next_fit(meter, marks, place))
            self.same(list(islice(each_fit(meter, marks), 3)), list(islice(each_fit(meter, marks, 0), 3)))
        self.same(next(each_fit(begin=342, marks=[40, 70], meter=TWO)), 1239)
        self.same((next_fit(begin=342, marks=(40, 70), meter=TWO), last_fit(end=342, marks=(40, 70), meter=TWO)),
                  (1239, 341))

    def test_nothing_fits(self):
        none = [(TWO, (40, 75)), (Meter(Grid(4), Grid(6)), (1, 2)), (Meter(Exact(5), Exact(5)), (0, 1)),
                (Meter(Exact(5), Exact(5), Exact(5), off=1, more=3), (0, 1, 2)),
                (Meter(Grid(4), Even(8, 1), Exact(9), lost=1), (0, 2, None)),
                (Meter(Exact(FAR), Exact(FAR - 2), Exact(FAR - 4)), (0, 1, 0))]
        for meter, marks in none:
            self.same([fits(meter, marks, -MOST, MOST), next_fit(meter, marks, 0), last_fit(meter, marks, 0)],
                      [(), None, None])
            self.same([list(each_fit(meter, marks)), list(each_fit(meter, marks, -MOST))], [[], []])
            self.raises(Unfit(), surely_off, meter, marks, MOST)
            self.raises(Unfit(), maybe_off, meter, marks, MOST)
            self.assertIs(type(told(meter, marks, MOST, 0)), Noticed)

    def test_each_fit_goes_by_the_marks_at_its_first_item(self):
        marks = [40, 70]
        rows = each_fit(TWO, marks)
        marks[:] = [50, 80]
        self.same(next(rows), 349)
        marks[:] = [1, 2, 3]
        self.same([next(rows), next(rows), next(rows)], [350, 351, 1249])
        rows = each_fit(TWO, marks)
        self.raises(BadMark(None), lambda: next(rows))

    def test_functions_change_no_list(self):
        marks = [40, 70]
        for work in (lambda: fits(TWO, marks, 0, 5), lambda: told(TWO, marks, 5, 5), lambda: tables_of(TWO, marks),
                     lambda: list(choices_of(TWO, marks)), lambda: next(each_fit(TWO, marks))):
            work()
            self.same(marks, [40, 70])
        rows = tables_of(TWO, marks)
        marks[0] = 7
        self.assertEqual(rows, tables_of(TWO, (40, 70)))


class Choices(Case):
    def test_choices_and_tables(self):
        for meter, marks in some_readings(205, 300, 6, 9):
            wanted = choices_by_hand(meter, marks)
            self.same(list(choices_of(meter, marks)), wanted)
            found = tables_of(meter, list(marks))
            self.assertIs(type(found), tuple)
            self.same(len(found), len(wanted))
            for places, paper in zip(wanted, found):
                self.assertIs(type(paper), Join)
                self.same(paper.tables, join(*[meter[at].shown_by(marks[at]) for at in places]).tables)
        self.same(list(choices_of(marks=(0, 0), meter=TWO)), [(0, 1)])
        self.same(len(tables_of(marks=(0, 0), meter=TWO)), 1)

    def test_choices_without_wheels(self):
        for meter, marks in ((Meter(Exact(5), lost=1), (None,)), (Meter(Exact(5), off=1), (3,)),
                             (Meter(Exact(5), Exact(7), off=1, lost=1), (3, None)),
                             (Meter(Exact(5), Exact(7), off=8), (3, 6))):
            self.same(list(choices_of(meter, marks)), [()])
            self.assertEqual(tables_of(meter, marks), (Join(()),))
            self.same(fits(meter, marks, -7, 10 ** 110), ((-7, 10 ** 110),))
            self.same([next_fit(meter, marks, 4), last_fit(meter, marks, -4)], [4, -4])
            self.same(list(islice(each_fit(meter, marks, -2), 4)), [-2, -1, 0, 1])

    def test_eight_wheels(self):
        meter = Meter(*[Exact(n) for n in (2, 3, 5, 7, 11, 13, 17)], Grid(4), off=3, lost=2)
        for marks in ((0,) * 8, (None, 0, 0, None, 0, 0, 0, 3), (1, 2, 3, 4, 5, 6, 7, 1)):
            self.same(list(choices_of(meter, marks)), choices_by_hand(meter, marks))
            low = next_fit(meter, marks, 0)
            self.same(low, next(x for x in range(10 ** 6) if lets_fit(meter, marks, x)))


class Off(Case):
    def test_off_at(self):
        for meter, marks in some_readings(206, 200, 6, 9):
            for value in (*range(-20, 40), 10 ** 90):
                self.same(off_at(meter, marks, value), places_off(meter, marks, value) if value < 99
                          else tuple(at for at, mark in enumerate(marks)
                                     if mark is not None and not meter[at].lets(value, mark)))
        self.same(off_at(Meter(Grid(4), Exact(5), lost=1), [1, None], 0), (0,))
        self.same(off_at(value=342, marks=(40, 70), meter=TWO), (0, 1))

    def test_surely_and_maybe_off(self):
        seen = 0
        for meter, marks in some_readings(207, 400, 5, 9):
            for reach in (1, 2, 9, 60):
                values = [x for x in range(reach) if lets_fit(meter, marks, x)]
                if not values:
                    self.raises(Unfit(), surely_off, meter, marks, reach)
                    self.raises(Unfit(), maybe_off, meter, marks, reach)
                    continue
                offs = [set(off_at(meter, marks, x)) for x in values]
                sure, some = tuple(sorted(set.intersection(*offs))), tuple(sorted(set.union(*offs)))
                self.same((surely_off(meter, marks, reach), maybe_off(meter, list(marks), reach)), (sure, some))
                seen += sure not in ((), some)
        self.assertGreater(seen, 10)
        self.same((surely_off(reach=63, marks=(1, 0, 6, 11), meter=FOUR),
                   maybe_off(reach=63, marks=(1, 0, 6, 11), meter=FOUR)), ((1,), (1,)))

    def test_long_runs(self):
        for reach in (2, 10 ** 90, MOST):
            meter = Meter(Exact(7), Even(9, 3), Wheel(FAR, 0, FAR), Exact(5), off=4, lost=1)
            for marks, some in (((3, 0, 5, 2), (0, 1, 3)), ((3, 0, 5, None), (0, 1)), ((0, 0, 0, 0), (0, 1, 3))):
                wanted = some if reach > 2 or marks[0] else (0, 3)
                if reach == 2:
                    wanted = tuple(at for at in some if 0 in off_set(meter, marks, at) or 1 in off_set(meter, marks, at))
                self.same(maybe_off(meter, marks, reach), wanted)
                both = tuple(at for at in some if reach == 2 and off_set(meter, marks, at) == {0, 1})
                self.same(surely_off(meter, marks, reach), both)
        # one wheel that is wide and one that has a mark beyond the reach
        meter = Meter(Even(FAR, 10 ** 11), Exact(FAR), off=1)
        self.same(fits(meter, (5, 10 ** 11 + 7), 0, FAR - 1),
                  ((0, 10 ** 11 + 5), (10 ** 11 + 7, 10 ** 11 + 7), (9 * 10 ** 11 + 5, FAR - 1)))
        self.same((surely_off(meter, (5, 10 ** 11 + 7), 10 ** 11), maybe_off(meter, (5, 10 ** 11 + 7), 10 ** 11)),
                  ((1,), (1,)))
        self.same((surely_off(meter, (5, 10 ** 11 + 7), FAR), maybe_off(meter, (5, 10 ** 11 + 7), FAR)), ((), (0, 1)))

    def test_long_runs_of_many_runs(self):
        # two wheels of which one or the other lets each value
        meter = Meter(Wheel(10, 0, 7), Wheel(20, 0, 14), off=1)
        marks = (7, 19)
        self.same([x for x in range(20) if not lets_fit(meter, marks, x)], [])
        for reach in (10, 10 ** 90, MOST):
            self.same(fits(meter, marks, 0, reach - 1), ((0, reach - 1),))
            self.same((surely_off(meter, marks, reach), maybe_off(meter, marks, reach)), ((), (0, 1)))
            self.same(told(meter, marks, reach, reach - 2).high, reach - 1)


def off_set(meter, marks, at):
    return {value for value in (0, 1) if marks[at] is not None and not meter[at].lets(value, marks[at])}


class Tells(Case):
    def test_told(self):
        seen = {}
        for meter, marks in some_readings(208, 400):
            for reach, window in ((1, 0), (2, 0), (9, 3), (40, 0), (40, 10), (90, 60)):
                values = [x for x in range(reach) if lets_fit(meter, marks, x)]
                found = told(meter, marks, reach, window)
                seen[type(found)] = seen.get(type(found), 0) + 1
                if not values:
                    self.assertIs(type(found), Noticed)
                    self.assertEqual(found.tables, tables_of(meter, marks))
                elif values[-1] - values[0] <= window:
                    self.assertIs(type(found), Told)
                    self.same((found.low, found.high), (values[0], values[-1]))
                    self.assertEqual(found.tables, tables_of(meter, marks))
                else:
                    self.assertIs(type(found), Spread)
                    self.assertTrue(found.low in values and found.high in values)
                    self.assertGreater(found.high - found.low, window)
                self.same(bool(found), type(found) is Told)
                self.assertEqual(found, told(meter, list(marks), reach, window))
        self.assertGreater(min(seen.values()), 300)
        self.same(told(window=2, reach=898, marks=(40, 70), meter=TWO).high, 341)

    def test_just_within_the_window(self):
        self.same([type(told(TWO, (40, 70), reach, window)) for reach, window in (
            (339, 5), (340, 0), (341, 0), (341, 1), (342, 1), (342, 2), (1239, 2), (1240, 899), (1240, 900))],
            [Noticed, Told, Spread, Told, Spread, Told, Told, Spread, Told])

    def test_far(self):
        found = told(TWO, (40, 70), MOST, 10 ** 119)
        self.same((type(found), found.low, found.high), (Told, 339, last_fit(TWO, (40, 70), MOST - 1)))
        found = told(TWO, (40, 70), MOST, found.high - 340)
        self.same((type(found), found.low, found.high), (Spread, 339, last_fit(TWO, (40, 70), MOST - 1)))
        self.same(type(told(Meter(Exact(5), lost=1), (None,), MOST, MOST - 1)), Told)
        self.same(type(told(Meter(Exact(5), lost=1), (None,), MOST, MOST - 2)), Spread)


class Many(Case):
    def test_500_runs(self):
        seven = Meter(Exact(7), lost=1)
        self.same(len(fits(seven, (0,), 0, 7 * 499 + 6)), 500)
        self.same(len(fits(seven, (3,), -7 * 400, 7 * 100 - 1)), 500)
        self.raises(TooMany("runs", 500), fits, seven, (0,), 0, 7 * 500)
        self.raises(TooMany("runs", 500), fits, seven, (0,), -MOST, MOST)
        self.same(fits(seven, (None,), -MOST, MOST), ((-MOST, MOST),))
        self.same((surely_off(seven, (0,), 7 * 499 + 7), maybe_off(seven, (0,), 7 * 499 + 7)), ((), ()))
        for work in (surely_off, maybe_off):
            self.raises(TooMany("runs", 500), work, seven, (0,), 7 * 500 + 1)
            self.raises(TooMany("runs", 500), work, seven, (0,), MOST)
        # no other function has this bound
        self.same((next_fit(seven, (0,), 8), last_fit(seven, (0,), 8)), (14, 7))
        self.same(type(told(seven, (0,), MOST, 0)), Spread)

    def works(self, meter, marks):
        return (lambda: tables_of(meter, marks), lambda: fits(meter, marks, 0, 5), lambda: fits(meter, marks, 5, 0),
                lambda: next_fit(meter, marks, 0), lambda: last_fit(meter, marks, 0),
                lambda: next(each_fit(meter, marks)), lambda: told(meter, marks, 1, 0),
                lambda: told(meter, marks, MOST, MOST), lambda: surely_off(meter, marks, 1),
                lambda: maybe_off(meter, marks, 1))

    def test_2000_runs(self):
        for work in self.works(HEAVY, (0, 0)):
            self.raises(TooMany("runs", 2000), work)
        for work in self.works(HEAVY.with_numbers(1, 0, 0) + Meter(Exact(7), off=1), (0, 0, 0)):
            self.raises(TooMany("runs", 2000), work)
        for work in self.works(JUST, (1999, 0)):
            work()
        self.same(len(tables_of(JUST, (5, 0))[0].tables[1][1]), 2000)
        # what is lost is in no choice; what comes first matters
        for work in self.works(HEAVY, (0, None)):
            work()
        for wheels, heavy in (((0, 1, 2), True), ((2, 0, 1), False), ((0, 2, 1), False)):
            three = (HEAVY[0], HEAVY[1], Exact(FAR))
            meter = Meter(*[three[at] for at in wheels])
            marks = tuple(0 for _ in wheels)
            for work in self.works(meter, marks):
                if heavy:
                    self.raises(TooMany("runs", 2000), work)
                else:
                    work()
        self.same((list(choices_of(HEAVY, (0, 0))), off_at(HEAVY, (0, 0), 2001)), ([(0, 1)], (0, 1)))


class Wrong(Case):
    def works(self, meter, marks, number):
        return ((choices_of, ()), (tables_of, ()), (fits, (number, number)), (next_fit, (number,)),
                (last_fit, (number,)), (each_fit, ()), (each_fit, (number,)), (off_at, (number,)),
                (told, (number, number)), (surely_off, (number,)), (maybe_off, (number,)))

    def test_meter_and_marks(self):
        for number in (None, 1):
            for value in [*ANY, Exact(5)]:
                for work, more in self.works(value, (), number):
                    self.raises(BadMeter("meter"), work, value, None, *more)
                    self.raises(BadMeter("meter"), work, value, (0, 0), *more)
            meter = Meter(Exact(5), Grid(4), Even(9, 1), lost=1)
            for marks, at in ((None, None), ((), None), ((0, 0), None), ((0, 0, 0, 0), None), ({}, None), ("000", None),
                              ({0: 0, 1: 1, 2: 2}, None), (range(3), None), (7, None),
                              ((5, 0, 0), 0), ((-1, 4, 9), 0), ((0, 4, 9), 1), ((0, None, 9), 1), ((0, 3, 9), 2),
                              ((True, 0, 0), 0), ((0, False, 0), 1), ((0, 0, "0"), 2), ([0, 0, (0,)], 2),
                              ((None, None, None), 1), ((None, 0, None), "lost"), ([None, 3, None], "lost"),
                              ((None, 0, 9), 2), ((0, 0, 1.0), 2)):
                for work, more in self.works(meter, marks, number):
                    self.raises(BadMark(at), work, meter, marks, *more)
            for value in ANY:
                for work, more in self.works(meter, value, number):
                    if not (isinstance(value, (list, tuple)) and len(value) == 3):
                        self.raises(BadMark(None), work, meter, value, *more)

    def test_numbers(self):
        for meter, marks in ((TWO, (40, 70)), (HEAVY, [0, 0]), (TWO, (40, 75))):
            for value in others(is_int):
                for work in (next_fit, last_fit, each_fit, off_at):
                    self.raises(BadNumber(value), work, meter, marks, value)
                self.raises(BadNumber(value), fits, meter, marks, value, None)
                self.raises(BadNumber(value), fits, meter, marks, value, 0)
                self.raises(BadNumber(value), fits, meter, marks, 7, value)
            for value in others(lambda value: is_int(value) and 1 <= value <= MOST) + [MOST + 1, 0]:
                self.raises(BadNumber(value), told, meter, marks, value, None)
                self.raises(BadNumber(value), told, meter, marks, value, 0)
                self.raises(BadNumber(value), surely_off, meter, marks, value)
                self.raises(BadNumber(value), maybe_off, meter, marks, value)
            for value in others(lambda value: is_int(value) and value >= 0) + [-1]:
                self.raises(BadNumber(value), told, meter, marks, 1, value)
                self.raises(BadNumber(value), told, meter, marks, MOST, value)


if __name__ == "__main__":
    unittest.main()
