"""look_nearest.py: shows_nearest of right papers and of all that is a little otherwise."""

import unittest

from helpers import ANY, Case, alike, dice, is_int, others
from meter_helpers import random_meter
from reading_helpers import random_reading
from test_look_joins import table_changes, with_item
from wheelreach.errors import BadMark, BadMeter, BadNumber, TooMany
from wheelreach.joins import Join
from wheelreach.look_nearest import shows_nearest
from wheelreach.meters import Meter
from wheelreach.nearest import Nearest, nearest
from wheelreach.readings import Told, fits, tables_of
from wheelreach.wheels import Even, Exact, Grid, Wheel

MOST = 10 ** 100
FAR = 10 ** 12
TWO = Meter(Even(100, 1), Even(90, 1))


def changed(paper, **fields):
    """The same Nearest with other attributes."""
    return Nearest(**{**vars(paper), **fields})


class Examples(Case):
    def test_examples(self):
        self.same(shows_nearest(TWO, (40, 75), 898, nearest(TWO, (40, 75), 898)), True)
        self.same(shows_nearest(value=nearest(TWO, (40, 75), 898), reach=898, marks=[40, 75], meter=TWO), True)


class Right(Case):
    def test_what_nearest_returns(self):
        rng = dice(231)
        strains = {}
        for _ in range(200):
            meter = random_meter(rng, 4, 14)
            marks = random_reading(rng, meter)
            for reach in (1, 5, 40):
                try:
                    found = nearest(meter, marks, reach)
                except TooMany:
                    self.same(shows_nearest(meter, marks, reach, Nearest(0, (), (), tables_of(meter, marks))), False)
                    continue
                strains[found.strain] = strains.get(found.strain, 0) + 1
                self.same(shows_nearest(meter, marks, reach, found), True)
                self.same(shows_nearest(meter, list(marks), reach, found), True)
                # the same for another reach, as long as the same values have it
                for other in (1, 4, 6, 39, 41, 80):
                    same = alike(fields(meter, marks, other), vars(found))
                    self.same(shows_nearest(meter, marks, other, found), same)
        self.assertGreater(min(strains.get(k, 0) for k in (0, 1, 2, 3)), 10)

    def test_each_strain_but_the_least(self):
        for meter, marks, reach in ((TWO, (40, 75), 898), (Meter(Exact(7), Exact(9), Grid(2), off=1), (0, 4, 1), 9),
                                    (Meter(Exact(9), lost=1), (4,), 2)):
            least = nearest(meter, marks, reach).strain
            for k in range(8):
                less = tables_of(meter.wider(k - 1), marks) if k else ()
                runs = fits(meter.wider(k), marks, 0, reach - 1)
                value = Nearest(k, runs, less, tables_of(meter.wider(k), marks))
                self.same(shows_nearest(meter, marks, reach, value), k == least)
                for other in (least - 1, least + 1, -1, True, False, None, str(k), 1.0, 10 ** 12, 10 ** 120 - 1):
                    self.same(shows_nearest(meter, marks, reach, changed(value, strain=other)), False)

    def test_one_value_alone_has_less(self):
        meter = Meter(Exact(10))
        wider = meter.wider(1)
        for mark, reach, runs in ((0, 5, ((0, 1),)), (0, 1, ((0, 0),)), (4, 5, ((3, 4),))):
            value = Nearest(1, runs, tables_of(meter, (mark,)), tables_of(wider, (mark,)))
            self.same(fits(wider, (mark,), 0, reach - 1), runs)
            self.same(shows_nearest(meter, (mark,), reach, value), False)
        # with that value beyond the reach
        value = Nearest(1, ((3, 3),), tables_of(meter, (4,)), tables_of(wider, (4,)))
        self.same(shows_nearest(meter, (4,), 4, value), True)

    def test_strains_beyond_the_bound(self):
        meter = Meter(Exact(FAR))
        for k, wanted in ((999, True), (1000, True), (1001, False), (FAR // 2, False)):
            value = Nearest(k, ((0, 0),), tables_of(meter.wider(k - 1), (k,)), tables_of(meter.wider(k), (k,)))
            self.same(shows_nearest(meter, (k,), 1, value), wanted)


def fields(meter, marks, reach):
    try:
        return vars(nearest(meter, marks, reach))
    except TooMany:
        return None


class Changed(Case):
    def setUp(self):
        self.rows = []
        for meter, marks, reach in ((TWO, (40, 75), 898), (TWO, (40, 70), 1300),
                                    (Meter(Exact(4), Even(9, 1), Grid(2), Exact(5), off=1), (1, 7, 0, 3), 12),
                                    (Meter(Exact(4), Exact(6), lost=1), (1, None), 20),
                                    (Meter(Exact(7), off=1), (3,), 5)):
            self.rows.append((meter, marks, reach, nearest(meter, marks, reach)))

    def test_strains(self):
        for meter, marks, reach, found in self.rows:
            for other in [*ANY, *range(-3, 9), 1.0]:
                value = changed(found, strain=other)
                self.same(shows_nearest(meter, marks, reach, value), alike(other, found.strain))

    def test_runs(self):
        for meter, marks, reach, found in self.rows:
            runs = found.runs
            for at, (begin, end) in enumerate(runs):
                for run in ((begin + 1, end), (begin - 1, end), (begin, end + 1), (begin, end - 1), [begin, end],
                            (begin, end, end), (begin,), begin, None, (str(begin), end), (begin, float(end)),
                            (bool(begin), end) if begin in (0, 1) else None, (end, begin) if begin < end else None):
                    value = changed(found, runs=with_item(runs, at, run))
                    self.same(shows_nearest(meter, marks, reach, value), False)
                for other in (with_item(runs, at), with_item(runs, at, runs[at], runs[at])):
                    self.same(shows_nearest(meter, marks, reach, changed(found, runs=other)), False)
                if begin < end:
                    other = with_item(runs, at, (begin, begin), (begin + 1, end))
                    self.same(shows_nearest(meter, marks, reach, changed(found, runs=other)), False)
            for other in [*ANY, list(runs), runs[::-1] if len(runs) > 1 else None, runs + ((reach, reach),), runs * 2,
                          runs * 501, (runs,), ((0, reach - 1),), ()]:
                self.same(shows_nearest(meter, marks, reach, changed(found, runs=other)), alike(other, runs))

    def test_tables(self):
        for meter, marks, reach, found in self.rows:
            for name in ("less", "tables"):
                tables = getattr(found, name)
                for at, paper in enumerate(tables):
                    for other in table_changes(paper.tables) if paper.tables else [None, [], ((1, ((0, 0),)),)]:
                        value = changed(found, **{name: with_item(tables, at, Join(other))})
                        self.same(shows_nearest(meter, marks, reach, value), alike(other, paper.tables))
                    for other in (None, paper.tables, (), Told(0, 0, paper.tables)):
                        value = changed(found, **{name: with_item(tables, at, other)})
                        self.same(shows_nearest(meter, marks, reach, value), False)
                for other in [*ANY, list(tables), tables[:-1], tables[1:], tables + (Join(()),), tables * 2, (Join(()),),
                              tables[::-1], found.tables, found.less, None, (None,)]:
                    right = isinstance(other, tuple) and len(other) == len(tables) and all(
                        isinstance(x, Join) and x == y for x, y in zip(other, tables))
                    value = changed(found, **{name: other})
                    self.same(shows_nearest(meter, marks, reach, value), right, (name, other))
            if found.strain > 0:
                value = changed(found, less=found.tables, tables=found.less)
                self.same(shows_nearest(meter, marks, reach, value), False)

    def test_other_readings_and_meters(self):
        meter, marks, reach, found = self.rows[0]
        for other in ((40, 76), (41, 75), (39, 75), (0, 0)):
            self.same(shows_nearest(meter, other, reach, found), False)
        for other in (meter.wider(1), meter[::-1], meter.with_numbers(1, 0, 0), Meter(Even(100, 2), Even(90, 1))):
            self.same(shows_nearest(other, marks, reach, found), False)
        # spare numbers other than off do not matter here
        self.same(shows_nearest(meter.with_numbers(0, 3, 2), marks, reach, found), True)


class Many(Case):
    def test_500_runs(self):
        meter = Meter(Exact(2), Exact(4))
        found = nearest(meter, (0, 1), 2000)
        self.same((shows_nearest(meter, (0, 1), 2000, found), shows_nearest(meter, (0, 1), 2001, found)), (True, False))
        more = changed(found, runs=found.runs + ((2000, 2000),))
        self.raises(TooMany("runs", 500), nearest, meter, (0, 1), 2001)
        self.same(shows_nearest(meter, (0, 1), 2001, more), False)

    def test_never_too_many(self):
        heavy = Meter(Wheel(FAR, 2000, 0), Exact(FAR - 1))
        self.raises(TooMany("runs", 2000), nearest, heavy, (0, 0), 9)
        for tables in ((), (Join(()),), (Join(((FAR, ((0, 2000),)), (FAR * (FAR - 1), ((0, 0),)))),)):
            self.same(shows_nearest(heavy, (0, 0), 9, Nearest(0, ((0, 0),), (), tables)), False)
        self.same(shows_nearest(Meter(Grid(4), Grid(6)), (1, 2), 9, Nearest(0, (), (), ())), False)

    def test_long_runs(self):
        meter = Meter(Exact(2), Exact(2), Exact(FAR), lost=1)
        found = nearest(meter, (0, 1, None), MOST)
        self.same(shows_nearest(meter, (0, 1, None), MOST, found), True)
        self.same(shows_nearest(meter, (0, 1, None), MOST - 1, found), False)
        self.same(shows_nearest(meter, (0, 1, None), MOST - 1, changed(found, runs=((0, MOST - 2),))), True)


class Wrong(Case):
    def test_no_papers(self):
        for value in [*ANY, TWO, Exact(5), tables_of(TWO, (40, 70)), Told(0, 0, ())]:
            self.same(shows_nearest(TWO, (40, 75), 898, value), False)
            self.same(shows_nearest(TWO, (40, 75), 898, Nearest(value, value, value, value)), False)
            self.same(shows_nearest(TWO, (40, 75), 898, Nearest(2, ((0, 0),), (Join(value),), (Join(value),))), False)
            self.same(shows_nearest(TWO, (40, 75), 898, Nearest(0, ((0, 0),), value, (Join(value),))), False)

    def test_errors_in_their_order(self):
        for looked in (nearest(TWO, (40, 75), 898), None, 7):
            for value in [*ANY, Exact(5)]:
                self.raises(BadMeter("meter"), shows_nearest, value, None, None, looked)
                self.raises(BadMeter("meter"), shows_nearest, value, (0, 0), 5, looked)
            for marks, at in ((None, None), ((40,), None), ((40, -1), 1), ((100, None), 0), ((40, None), "lost")):
                self.raises(BadMark(at), shows_nearest, TWO, marks, None, looked)
                self.raises(BadMark(at), shows_nearest, TWO, marks, 5, looked)
            for value in others(lambda value: is_int(value) and 1 <= value <= MOST) + [MOST + 1, 0]:
                self.raises(BadNumber(value), shows_nearest, TWO, (40, 75), value, looked)


if __name__ == "__main__":
    unittest.main()
