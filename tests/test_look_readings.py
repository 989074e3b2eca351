"""look_readings.py: shows_told of right papers and of all that is a little otherwise."""

import unittest

from helpers import ANY, Case, alike, dice, is_int, others
from meter_helpers import random_meter
from reading_helpers import lets_fit, random_reading
from test_look_joins import table_changes, with_item
from wheelreach.errors import BadMark, BadMeter, BadNumber, TooMany
from wheelreach.joins import Join, join
from wheelreach.look_readings import shows_told
from wheelreach.meters import Meter
from wheelreach.reaches import Sure
from wheelreach.readings import Noticed, Spread, Told, tables_of, told
from wheelreach.wheels import Even, Exact, Grid, Wheel

MOST = 10 ** 100
FAR = 10 ** 12
TWO = Meter(Even(100, 1), Even(90, 1))


class Examples(Case):
    def test_examples(self):
        found = told(TWO, (40, 70), 898, 2)
        self.same([shows_told(TWO, (40, 70), 898, 2, found), shows_told(TWO, (40, 70), 898, 1, Spread(339, 341))],
                  [True, True])
        self.same(shows_told(value=found, window=2, reach=898, marks=[40, 70], meter=TWO), True)


class Tellings(Case):
    def setUp(self):
        rng = dice(211)
        self.rows = []
        for _ in range(150):
            meter = random_meter(rng, 4, 9)
            self.rows.append((meter, random_reading(rng, meter)))
        self.rows += [(TWO, (40, 70)), (TWO, (40, 75)), (Meter(Exact(5), lost=1), (None,)),
                      (Meter(Exact(5), off=1), (2,)), (Meter(Grid(4), Grid(6)), (1, 2))]

    def test_what_told_returns(self):
        seen = {}
        for meter, marks in self.rows:
            for reach, window in ((1, 0), (9, 0), (9, 4), (40, 3), (40, 39), (MOST, 7), (MOST, MOST)):
                found = told(meter, marks, reach, window)
                seen[type(found)] = seen.get(type(found), 0) + 1
                self.same(shows_told(meter, marks, reach, window, found), True)
                self.same(shows_told(meter, list(marks), reach, window, found), True)
        self.assertGreater(min(seen.values()), 100)

    def test_another_class_and_other_values(self):
        for meter, marks in self.rows[::2]:
            tables = tables_of(meter, marks)
            for reach, window in ((9, 2), (30, 12)):
                values = [x for x in range(reach) if lets_fit(meter, marks, x)]
                self.same(shows_told(meter, marks, reach, window, Noticed(tables)), not values)
                places = sorted({-1, 0, 1, reach - 1, reach, *(x + s for x in values[:3] + values[-2:]
                                                               for s in (-1, 0, 1))})
                for low in places:
                    for high in places:
                        wanted = bool(values) and (low, high) == (values[0], values[-1]) and high - low <= window
                        self.same(shows_told(meter, marks, reach, window, Told(low, high, tables)), wanted)
                        wanted = low in values and high in values and high - low > window
                        self.same(shows_told(meter, marks, reach, window, Spread(low, high)), wanted)

    def test_nothing_fits_but_beside_the_reach(self):
        for mark, reach, low, high in ((9, 9, 9, -1), (5, 5, 5, -5), (9, 1, 9, -1), (1, 1, 1, -9)):
            meter, marks = Meter(Exact(10)), (mark,)
            tables = tables_of(meter, marks)
            self.same(shows_told(meter, marks, reach, 0, Noticed(tables)), True)
            self.same(shows_told(meter, marks, reach, 0, Told(low, high, tables)), False)
            self.same(shows_told(meter, marks, reach, MOST, Told(high, low, tables)), False)
            self.same(shows_told(meter, marks, low + 1, 0, Noticed(tables)), False)
            self.same(shows_told(meter, marks, low + 1, 0, Told(low, low, tables)), True)

    def test_changed_tables(self):
        rows = [(Meter(Exact(4), Even(9, 1), Grid(2), lost=1), (1, 5, 0)), (Meter(Exact(4), Exact(6), off=1), (1, 2)),
                (Meter(Even(5, 1), Exact(7)), (3, 3)), (Meter(Grid(4), Grid(6)), (1, 2))]
        for meter, marks in rows:
            tables = tables_of(meter, marks)
            for reach, window in ((8, 7), (100, 99)):
                found = told(meter, marks, reach, window)
                for at, paper in enumerate(tables):
                    for changed in table_changes(paper.tables):
                        other = with_item(tables, at, Join(changed))
                        value = Noticed(other) if isinstance(found, Noticed) else Told(found.low, found.high, other)
                        self.same(shows_told(meter, marks, reach, window, value), alike(changed, paper.tables))

    def test_tables_left_out_or_of_another_choice(self):
        meter, marks = Meter(Exact(4), Even(9, 1), Grid(2), Exact(11), off=1), (1, 1, 1, 1)
        tables = tables_of(meter, marks)
        found = told(meter, marks, 5, 4)
        self.same((type(found), len(tables)), (Told, 3))
        changes = [tables[1:], tables[:-1], tables[::-1], tables + tables[:1], tables + (Join(()),), list(tables), (),
                   None, 0, "tables", Join(tables), tables[0], tuple(paper.tables for paper in tables),
                   with_item(tables, 0, tables[1]), with_item(tables, 1, tables[0]), with_item(tables, 2, Join(())),
                   with_item(tables, 1, Sure(tables[1].tables)), with_item(tables, 1, None), with_item(tables, 1),
                   tables_of(meter, (1, 1, 1, 2)), tables_of(meter.wider(1), marks),
                   with_item(tables, 0, Join(list(tables[0].tables))), with_item(tables, 0, join())]
        for other in [*changes, *ANY]:
            self.same(shows_told(meter, marks, 5, 4, Told(found.low, found.high, other)), False)
            self.same(shows_told(meter, marks, 5, 4, Noticed(other)), False)
        again = tuple(Join(tuple(paper.tables)) for paper in tables)
        self.same(shows_told(meter, marks, 5, 4, Told(found.low, found.high, again)), True)
        for value in ANY:
            self.same(shows_told(meter, marks, 5, 4, Told(1, 1, with_item(tables, 1, value))), False)
            self.same(shows_told(meter, marks, 5, 4, Told(1, 1, with_item(tables, 1, Join(value)))), False)

    def test_kinds_of_values(self):
        meter, marks = Meter(Exact(7)), (1,)
        tables = tables_of(meter, marks)
        self.same(shows_told(meter, marks, 5, 4, Told(1, 1, tables)), True)
        self.same(shows_told(meter, marks, 9, 6, Spread(1, 8)), True)
        for value in [*ANY, 1.0]:
            right = is_int(value) and value == 1
            self.same(shows_told(meter, marks, 5, 4, Told(value, 1, tables)), right)
            self.same(shows_told(meter, marks, 5, 4, Told(1, value, tables)), right)
            self.same(shows_told(meter, marks, 9, 6, Spread(value, 8)), right)
            self.same(shows_told(meter, marks, 9, 6, Spread(1, value)), False)
        for low, high, wanted in ((1, 8, True), (8, 1, False), (1, 15, False), (-6, 1, False), (-6, 8, False),
                                  (8, 8, False), (1, 7, False), (2, 8, False)):
            self.same(shows_told(meter, marks, 9, 6, Spread(low, high)), wanted)
        self.same([shows_told(meter, marks, reach, window, Spread(1, 8))
                   for reach, window in ((8, 6), (9, 7), (9, 0), (MOST, 6))], [False, False, True, True])

    def test_trusted_and_lost_in_a_spread(self):
        meter = Meter(Grid(2), Exact(3), Exact(5), off=1, lost=1)
        for marks in ((0, 0, 0), (1, 2, None), (0, None, 4)):
            values = [x for x in range(60) if lets_fit(meter, marks, x)]
            for low in range(60):
                for high in range(low, 60):
                    wanted = low in values and high in values and high - low > 2
                    self.same(shows_told(meter, marks, 60, 2, Spread(low, high)), wanted)


class Wrong(Case):
    def test_no_papers(self):
        for value in [*ANY, TWO, Exact(5), tables_of(TWO, (40, 70)), (339, 341)]:
            self.same(shows_told(TWO, (40, 70), 898, 2, value), False)
            self.same(shows_told(TWO, (40, 75), 898, 2, value), False)
            for paper in (Told(value, value, value), Spread(value, value), Noticed(value)):
                self.same(shows_told(TWO, (40, 70), 898, 2, paper), False)

    def test_errors_in_their_order(self):
        for looked in (told(TWO, (40, 70), 898, 2), None, 7):
            for value in [*ANY, Exact(5)]:
                self.raises(BadMeter("meter"), shows_told, value, None, None, None, looked)
            for marks, at in ((None, None), ((40,), None), ((40, -1), 1), ((100, None), 0), ((40, None), "lost")):
                self.raises(BadMark(at), shows_told, TWO, marks, None, None, looked)
                self.raises(BadMark(at), shows_told, TWO, marks, 5, 5, looked)
            for value in others(lambda value: is_int(value) and 1 <= value <= MOST) + [MOST + 1, 0]:
                self.raises(BadNumber(value), shows_told, TWO, (40, 70), value, None, looked)
                self.raises(BadNumber(value), shows_told, TWO, [40, 70], value, 0, looked)
            for value in others(lambda value: is_int(value) and value >= 0) + [-1]:
                self.raises(BadNumber(value), shows_told, TWO, (40, 70), MOST, value, looked)
                self.raises(BadNumber(value), shows_told, TWO, (40, 70), 1, value, looked)

    def test_never_too_many(self):
        heavy = Meter(Wheel(FAR, 2000, 0), Exact(FAR - 1))
        self.raises(TooMany("runs", 2000), told, heavy, (0, 0), 9, 9)
        self.same(shows_told(heavy, (0, 0), 10 ** 90, 5, Spread(0, FAR * (FAR - 1))), True)
        self.same(shows_told(heavy, (0, 0), 10 ** 90, 5, Spread(0, FAR * (FAR - 1) + 1)), False)
        for tables in ((), (Join(()),), (Join(((1, ()), (1, ()))),)):
            self.same(shows_told(heavy, (0, 0), 9, 9, Noticed(tables)), False)
            self.same(shows_told(heavy, (0, 0), 9, 9, Told(0, 0, tables)), False)


if __name__ == "__main__":
    unittest.main()
