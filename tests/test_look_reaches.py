"""look_reaches.py: shows_sure of right answers and of all that is a little otherwise."""

import itertools
import unittest

from helpers import ANY, Case, dice, is_int, others
from meter_helpers import fits, may_come, places_off, random_meter, readings
from test_look_joins import alike, table_changes, with_item
from wheelreach.errors import BadMeter, BadNumber, TooMany
from wheelreach.joins import Join, join
from wheelreach.look_reaches import shows_sure
from wheelreach.meters import Meter
from wheelreach.reaches import Sure, Unsure, pair_at, reach_of, sure
from wheelreach.wheels import Even, Exact, Grid, Lagging, Wheel

MOST = 10 ** 100
PAIR = Meter(Even(100, 1), Even(90, 1))


class Examples(Case):
    def test_examples(self):
        found, no = sure(PAIR, 898, 2), sure(PAIR, 899, 2)
        self.same([shows_sure(PAIR, 898, 2, found), shows_sure(PAIR, 899, 2, found)], [True, False])
        self.same(shows_sure(PAIR, 899, 2, no), True)
        self.same(shows_sure(PAIR, 899, 2, Unsure(0, 898, (99, 89), (), ())), True)
        self.same(shows_sure(value=found, window=2, reach=898, meter=PAIR), True)


class Sures(Case):
    def test_what_sure_returns(self):
        rng = dice(81)
        for _ in range(200):
            meter = random_meter(rng, 4, 9)
            for window in (0, 1, 3, 10):
                least = reach_of(meter, window)
                for reach in {1, least - 1, least, least + 1, least + 30, window + 1} - {0}:
                    self.same(shows_sure(meter, reach, window, sure(meter, reach, window)), True)

    def test_a_sure_shows_each_reach_up_to_the_greatest(self):
        rng = dice(82)
        for _ in range(60):
            meter = random_meter(rng, 3, 9)
            found = sure(meter, 1, 0)
            for window in range(6):
                least = reach_of(meter, window)
                for reach in (1, least - 1, least, least + 1, MOST):
                    if reach > 0:
                        self.same(shows_sure(meter, reach, window, found), reach <= least)

    def test_changed_tables(self):
        rng = dice(83)
        for _ in range(12):
            meter = random_meter(rng, 3, 7, (0, 0, 1))
            rows = sure(meter, 1, 0).tables
            for at, tables in enumerate(rows):
                if not tables:
                    continue
                for changed in table_changes(tables):
                    self.same(shows_sure(meter, 1, 0, Sure(with_item(rows, at, changed))), alike(changed, tables))

    def test_changed_choices(self):
        meter = Meter(Exact(4), Even(9, 1), Grid(2), Exact(7), lost=1)
        rows = sure(meter, 1, 0).tables
        self.same(len(rows), 3)
        for changed in (rows[1:], rows[:-1], rows[::-1], rows + rows[:1], rows + ((),), list(rows), None, (), 0, "rows",
                        (rows,), rows[0], with_item(rows, 1, rows[0]), with_item(rows, 0), with_item(rows, 2, ()),
                        with_item(rows, 1, list(rows[1])), with_item(rows, 1, Join(rows[1])), with_item(rows, 1, None)):
            self.same(shows_sure(meter, 1, 0, Sure(changed)), False)
        self.same(shows_sure(meter, 1, 0, Sure(tuple(list(rows)))), True)
        for value in ANY:
            self.same(shows_sure(meter, 1, 0, Sure(value)), False)
            self.same(shows_sure(meter, 1, 0, Sure(with_item(rows, 1, value))), False)
        self.same((shows_sure(meter, 1, 0, Join(rows)), shows_sure(meter, 1, 0, rows)), (False, False))

    def test_choices_without_wheels(self):
        meter = Meter(Exact(5), lost=1)
        for reach, window, wanted in ((1, 0, True), (2, 0, False), (8, 7, True), (9, 7, False), (2, 1, True),
                                      (MOST, MOST, True), (MOST, MOST - 1, True), (MOST, MOST - 2, False)):
            self.same(shows_sure(meter, reach, window, Sure(((),))), wanted)
        for rows in ((), ((), ()), ([],), [()], (((1, ((0, 0),)),),), (None,), ((5, ((0, 0),)),)):
            self.same(shows_sure(meter, 1, 0, Sure(rows)), False)

    def test_meters_of_other_wheels(self):
        found = sure(PAIR, 10, 2)
        alike_wheels = Meter(Wheel(100, 2, 0), Lagging(90, 2))
        for other, wanted in ((Meter(Even(90, 1), Even(100, 1)), False), (alike_wheels, True),
                              (PAIR.wider(1), False), (PAIR * 2, False), (PAIR.with_numbers(0, 0, 1), False),
                              (PAIR + PAIR, False), (PAIR[:1], False), (Meter(Exact(100), Even(90, 1)), False)):
            self.same(shows_sure(other, 10, 2, found), wanted)


class Unsures(Case):
    def check(self, meter, reach, window, value):
        """Whether it is right, by the definitions, for marks and places of the kinds that are due."""
        low, high, marks = value.low, value.high, value.marks
        if not 0 <= low < high < reach or high - low <= window:
            return False
        if (value.low_off, value.high_off) != (places_off(meter, marks, low), places_off(meter, marks, high)):
            return False
        return ((may_come(meter, marks, low) and fits(meter, marks, high))
                or (may_come(meter, marks, high) and fits(meter, marks, low)))

    def test_all_pairs_and_readings(self):
        rng = dice(84)
        seen = {True: 0, False: 0}
        for _ in range(60):
            meter = random_meter(rng, 3, 5, (0, 0, 1))
            rows = readings(meter.with_numbers(meter.off, meter.more, 8))
            for _ in range(150):
                low, high = rng.randint(-1, 12), rng.randint(-1, 12)
                marks = rng.choice(rows)
                value = Unsure(low, high, marks, places_off(meter, marks, low), places_off(meter, marks, high))
                reach, window = rng.randint(1, 14), rng.choice([0, 1, 2, 5])
                wanted = self.check(meter, reach, window, value)
                seen[wanted] += 1
                self.same(shows_sure(meter, reach, window, value), wanted)
        self.assertGreater(min(seen.values()), 200)

    def test_changed_attributes(self):
        meter = Meter(Exact(5), Even(9, 1), Grid(2), Exact(7), Exact(11), off=1, more=1, lost=1)
        high = reach_of(meter, 4)
        good = pair_at(meter, high)
        names = ("low", "high", "marks", "low_off", "high_off")

        def shown(reach=high + 1, window=high - 1, **changed):
            fields = {name: getattr(good, name) for name in names}
            fields.update(changed)
            return shows_sure(meter, reach, window, Unsure(**fields))
        self.same(shown(), True)
        self.same((shown(reach=high), shown(window=high), shown(reach=MOST, window=0)), (False, False, True))
        for name in names:
            for value in [*ANY, getattr(good, name), list(good.marks)]:
                wanted = alike(value, getattr(good, name))
                self.same(shown(**{name: value}), wanted, (name, value))
        for at, mark in enumerate(good.marks):
            for other in (None, -1, True, "0", mark, meter[at].period, 10 ** 120, (), 1.0):
                marks = with_item(good.marks, at, other)
                if not alike(marks, good.marks):
                    offs = {}
                    if other is None or is_int(other):
                        offs = {"low_off": places_off(meter, marks, 0), "high_off": places_off(meter, marks, high)}
                    lost = marks.count(None) <= 1 and marks[2] is not None
                    right = lost and is_int(other if other is not None else 0) and (
                        other is None or 0 <= other < meter[at].period) and self.check(
                            meter, high + 1, high - 1, Unsure(0, high, marks, **offs))
                    self.same(shown(marks=marks, **offs), right)
            self.same(shown(marks=with_item(good.marks, at)), False)
            self.same(shown(marks=with_item(good.marks, at, mark, mark)), False)
        for name in ("low_off", "high_off"):
            places = getattr(good, name)
            for other in (list(places), places + (0,), (0,) + places, places[1:] if places else (1,), places * 2,
                          tuple(map(bool, places)) if places else None, tuple(map(str, places)) if places else "",
                          places[::-1] if len(places) > 1 else None):
                if not alike(other, places):
                    self.same(shown(**{name: other}), False, (name, other))

    def test_kinds(self):
        meter = Meter(Exact(2), Exact(3), Exact(5), off=1)
        for low, high, marks, low_off, high_off, wanted in (
                (0, 1, (1, 0, 0), (0,), (1, 2), False), (0, 2, (0, 2, 0), (1,), (2,), True),
                (False, 2, (0, 2, 0), (1,), (2,), False), (0, 2, (False, 2, 0), (1,), (2,), False),
                (0, 2, (0, 2, 0), (True,), (2,), False), (0, 2, [0, 2, 0], (1,), (2,), False),
                (0, 2, (0, 2, 0), [1], (2,), False), (0, 2, (0, 2, 0), (1,), [2], False),
                (0, 2, (0, 2, 0), (2,), (1,), False), (0, 2.0, (0, 2, 0), (1,), (2,), False),
                (0, 2, (0, 2, 0), (1,), (2.0,), False), (0, 2, (0, 2, 0), (), (2,), False)):
            value = Unsure(low, high, marks, low_off, high_off)
            self.same(shows_sure(meter, 9, 0, value), wanted, vars(value))
        two = Meter(Exact(2), Exact(3), more=1)
        self.same(shows_sure(two, 9, 0, Unsure(0, 2, (0, 2), (1,), ())), True)
        self.same(shows_sure(two, 9, 0, Unsure(0, 2, (0, 0), (), (1,))), True)
        self.same(shows_sure(two, 9, 0, Unsure(0, 2, (0, 0), (), (True,))), False)
        self.same(shows_sure(two, 9, 0, Unsure(0, True, (0, 0), (), ())), False)

    def test_marks_beyond_the_period(self):
        meter = Meter(Exact(2), Exact(3), off=1)
        self.same(shows_sure(meter, 9, 0, Unsure(0, 3, (1, 0), (0,), ())), True)
        for mark in (2, 3, 4, -1, 10 ** 100, True, "1", (), 1.0):
            self.same(shows_sure(meter, 9, 0, Unsure(0, 3, (mark, 0), (0,), (0,))), False)
            self.same(shows_sure(meter, 9, 0, Unsure(0, 6, (mark, 0), (0,), (0,))), False)
        self.same(shows_sure(meter, 9, 0, Unsure(0, 6, (1, 0), (0,), (0,))), True)

    def test_any_right_pair(self):
        found = [(low, high) for low, high in itertools.product(range(0, 905), repeat=2)
                 if high - low in (898, 899, 900) or (low < 3 and high in (1, 2, 3))]
        for low, high in found:
            marks = (PAIR[0](low + 1), PAIR[1](low + 1))
            value = Unsure(low, high, marks, places_off(PAIR, marks, low), places_off(PAIR, marks, high))
            wanted = value.low_off == value.high_off == () and 2 < high - low and high < 903
            self.same(shows_sure(PAIR, 903, 2, value), wanted)

    def test_numbers_for_both_sides(self):
        wheels = [Exact(n) for n in (5, 7, 9, 11)]
        # at 0 each wheel shows 0, at 1 each one shows 1: the first ones are off for 1, the next ones for 0
        for off, more, lost in itertools.product(range(3), repeat=3):
            meter = Meter(*wheels, off=off, more=more, lost=lost)
            for gone in range(4):
                for zeros in range(5 - gone):
                    marks = (None,) * gone + (0,) * zeros + (1,) * (4 - gone - zeros)
                    low_off = tuple(range(gone + zeros, 4))
                    high_off = tuple(range(gone, gone + zeros))
                    few, many = sorted([len(low_off), len(high_off)])
                    wanted = gone <= lost and few <= off and many <= off + more
                    self.same(shows_sure(meter, 2, 0, Unsure(0, 1, marks, low_off, high_off)), wanted)

    def test_trusted_wheels(self):
        meter = Meter(Grid(2), Exact(3), off=1, more=2, lost=1)
        self.same(shows_sure(meter, 9, 0, Unsure(0, 2, (0, 0), (), (1,))), True)
        self.same(shows_sure(meter, 9, 0, Unsure(0, 2, (None, 0), (), (1,))), False)
        self.same(shows_sure(meter, 9, 0, Unsure(0, 2, (1, 0), (0,), (0, 1))), False)
        self.same(shows_sure(meter, 9, 0, Unsure(0, 1, (0, 0), (), (0, 1))), False)
        self.same(shows_sure(meter, 9, 0, Unsure(0, 3, (0, 0), (), (0,))), False)
        self.same(shows_sure(meter, 9, 0, Unsure(0, 3, (1, 0), (0,), ())), False)
        self.same(shows_sure(meter, 9, 0, Unsure(0, 6, (0, None), (), ())), True)


class Wrong(Case):
    def test_no_papers(self):
        for value in [*ANY, PAIR, Exact(5), join(), ()]:
            self.same(shows_sure(PAIR, 10, 2, value), False)
            self.same(shows_sure(Meter(Exact(5), lost=1), 1, 0, value), False)

    def test_errors(self):
        for looked in (Sure(()), Unsure(0, 1, (), (), ()), None, 7):
            for value in [*ANY, Exact(5)]:
                self.raises(BadMeter("meter"), shows_sure, value, None, None, looked)
                self.raises(BadMeter("meter"), shows_sure, value, 1, 0, looked)
            for value in others(lambda value: is_int(value) and 1 <= value <= MOST) + [MOST + 1]:
                self.raises(BadNumber(value), shows_sure, PAIR, value, None, looked)
                self.raises(BadNumber(value), shows_sure, PAIR, value, 0, looked)
            for value in others(lambda value: is_int(value) and 0 <= value <= MOST) + [MOST + 1]:
                self.raises(BadNumber(value), shows_sure, PAIR, 1, value, looked)
                self.raises(BadNumber(value), shows_sure, PAIR, MOST, value, looked)

    def test_never_too_many(self):
        heavy = Meter(Wheel(10 ** 12, 1000, 0), Exact(10 ** 12 - 1))
        self.raises(TooMany("runs", 2000), sure, heavy, 10 ** 30, 5)
        d = 10 ** 12 - 1
        self.same(shows_sure(heavy, 10 ** 30, 5, pair_at(heavy, d)), True)
        self.same(shows_sure(heavy, d, 5, pair_at(heavy, d)), False)
        first = (10 ** 12, ((10 ** 12 - 1000, 10 ** 12 + 1000),))
        for rows in ((), ((),), ((first,),), ((first, (10 ** 12 * (10 ** 12 - 1), ((0, 0),))),)):
            self.same(shows_sure(heavy, 10 ** 30, 5, Sure(rows)), False)


if __name__ == "__main__":
    unittest.main()
