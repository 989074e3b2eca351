"""look_compared.py: shows_no_less of right papers and of all that is a little otherwise."""

import unittest

from helpers import ANY, Case, alike, dice, is_int
from test_compared import FAR, FINE, FOUR, HEAVY, WIDE, blind_set, round_of, small_meter
from test_look_joins import table_changes
from wheelreach.compared import Fails, Holds, tells_no_less
from wheelreach.errors import BadMeter
from wheelreach.joins import Join, join
from wheelreach.look_compared import shows_no_less
from wheelreach.meters import Meter
from wheelreach.reaches import Sure, sure
from wheelreach.wheels import Even, Exact, Grid, Wheel


class Examples(Case):
    def test_examples(self):
        self.same([shows_no_less(FINE, WIDE, tells_no_less(FINE, WIDE)), shows_no_less(WIDE, FINE, Fails(94)),
                   shows_no_less(WIDE, FINE, Fails(97)), shows_no_less(WIDE, FINE, Fails(0))],
                  [True, True, False, False])
        self.same(shows_no_less(value=Fails(94), other=FINE, one=WIDE), True)


class Pairs(Case):
    def setUp(self):
        rng = dice(211)
        self.pairs = [(small_meter(rng, 9), small_meter(rng, 9)) for _ in range(120)]
        self.pairs += [(one, one.wider(1)) for one, _ in self.pairs[:30]]
        self.pairs += [(one + Meter(Exact(4)), one) for one, _ in self.pairs[30:60] if len(one) < 8]
        self.pairs = [(one, other) for one, other in self.pairs if round_of(one, other) <= 2600]

    def test_what_tells_no_less_returns(self):
        seen = {True: 0, False: 0}
        for one, other in self.pairs:
            found = tells_no_less(one, other)
            self.same(shows_no_less(one, other, found), True)
            seen[bool(found)] += 1
            # the right tables of one show it only if other has no fewer blind differences
            tables = join(*[wheel.near for wheel in one.wheels]).tables
            self.same(shows_no_less(one, other, Holds(tables)), bool(found))
            self.same(shows_no_less(one, one, Holds(tables)), True)
        self.assertGreater(min(seen.values()), 30)

    def test_each_difference(self):
        for one, other in self.pairs:
            whole = round_of(one, other)
            first, second = blind_set(one, whole), blind_set(other, whole)
            for d in range(-3, 80):
                self.same(shows_no_less(one, other, Fails(d)), d >= 1 and d % whole in first - second, d)
            for d in sorted(first - second)[:3]:
                self.same(shows_no_less(one, other, Fails(d + whole * 10 ** 100)), True)
                self.same(shows_no_less(one, other, Fails(d - whole)), False)

    def test_other_tables(self):
        for one, other in [(one, other) for one, other in self.pairs if tells_no_less(one, other)][:14]:
            found = tells_no_less(one, other)
            for tables in table_changes(found.tables):
                self.same(shows_no_less(one, other, Holds(tables)), alike(tables, found.tables), tables)

    def test_papers_of_others(self):
        for one, other in self.pairs[:40]:
            found = join(*[wheel.near for wheel in one.wheels])
            for value in (found, Sure((found.tables,)), sure(one, 1, 0), found.tables, list(found.tables),
                          Holds(found), Holds((found.tables,)), Holds(list(found.tables)), Fails(found.tables)):
                self.same(shows_no_less(one, other, value), False)


class Kinds(Case):
    def test_any_values(self):
        for one, other in ((FINE, WIDE), (WIDE, FINE), (HEAVY, FINE), (FINE, HEAVY), (Meter(Grid(3)), Meter(Exact(2)))):
            for value in [*ANY, FINE, Join(()), sure(FINE, 1, 0)]:
                self.same(shows_no_less(one, other, value), False)
                self.same(shows_no_less(one, other, Holds(value)), False)
                wanted = is_int(value) and value >= 1 and one.is_blind(value) and not other.is_blind(value)
                self.same(shows_no_less(one, other, Fails(value)), wanted)
        # 1 is blind for the one, and True is no integer
        self.same(shows_no_less(Meter(Even(9, 1)), Meter(Exact(9)), Fails(1)), True)
        self.same(shows_no_less(Meter(Even(9, 1)), Meter(Exact(9)), Fails(True)), False)
        self.same(shows_no_less(Meter(Even(9, 1)), Meter(Exact(9)), Fails(2.0)), False)

    def test_heavy_meters(self):
        self.same(shows_no_less(HEAVY, Meter(Exact(FAR)), Fails(FAR - 1)), True)
        self.same(shows_no_less(HEAVY, Meter(Exact(FAR)), Fails(1001 * (FAR - 1))), False)
        self.same(shows_no_less(HEAVY, HEAVY, Fails(FAR - 1)), False)
        near = (FAR, ((FAR - 1000, FAR + 1000),))
        self.same(shows_no_less(HEAVY, HEAVY, Holds((near,))), False)
        self.same(shows_no_less(HEAVY, HEAVY, Holds((near, (FAR * (FAR - 1), ((0, 0),))))), False)
        one = Meter(Exact(FAR), Exact(FAR - 1))
        self.same(shows_no_less(one, HEAVY, tells_no_less(one, HEAVY)), True)
        self.same(shows_no_less(one, HEAVY, Holds((near, near))), False)

    def test_great_periods(self):
        one = Meter(Even(FAR, 10 ** 6), Even(FAR - 10 ** 7, 10 ** 6), Exact(7 * 10 ** 7))
        for other in (one.wider(1), one.without(2), one.without(0), one):
            found = tells_no_less(one, other)
            self.same((bool(found), shows_no_less(one, other, found)), (True, True))
        for other in (one + Meter(Exact(997)), Meter(Exact(FAR)), Meter(Wheel(FAR, 10 ** 6, 10 ** 6 - 1))):
            found = tells_no_less(one, other)
            self.same(shows_no_less(one, other, found), True)
            self.same(shows_no_less(one, other, Holds(join(*[wheel.near for wheel in one.wheels]).tables)), bool(found))

    def test_errors(self):
        for looked in (None, Fails(94), Holds(())):
            for value in [*ANY, Exact(5)]:
                for other in (None, value, FINE, FOUR):
                    self.raises(BadMeter("one"), shows_no_less, value, other, looked)
                for one in (FINE, HEAVY, FOUR):
                    self.raises(BadMeter("other"), shows_no_less, one, value, looked)
            for other in (FINE, HEAVY, FOUR):
                self.raises(BadMeter("spare"), shows_no_less, FOUR, other, looked)
                self.raises(BadMeter("spare"), shows_no_less, other, FOUR, looked)
            self.raises(BadMeter("spare"), shows_no_less, HEAVY.with_numbers(0, 1, 0), FINE, looked)


if __name__ == "__main__":
    unittest.main()
