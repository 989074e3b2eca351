"""look_speeds.py: shows_keeping of right papers and of all that is a little otherwise."""

import unittest

from helpers import ANY, Case, alike, dice, is_int, others
from meter_helpers import random_meter
from test_look_joins import table_changes, with_item
from wheelreach.errors import BadMeter, BadNumber, TooMany
from wheelreach.look_reaches import shows_sure
from wheelreach.look_speeds import shows_keeping
from wheelreach.meters import Meter
from wheelreach.reaches import Sure, Unsure, pair_at, sure
from wheelreach.speeds import Drifts, Kept, edge_of, greatest_spread, keeps
from wheelreach.wheels import Even, Exact, Grid, Wheel

MOST = 10 ** 99
FAR = 10 ** 12
PAIR = Meter(Even(100, 1), Even(90, 1))
SHORT = Meter(Even(10, 1), Even(7, 1))


class Examples(Case):
    def test_examples(self):
        kept, lost = keeps(PAIR, 2, 895), keeps(PAIR, 2, 896)
        self.same([shows_keeping(PAIR, 2, 895, kept), shows_keeping(PAIR, 2, 896, kept),
                   shows_keeping(PAIR, 2, 896, lost), shows_keeping(PAIR, 2, 897, Drifts(1, lost.counterexample))],
                  [True, False, True, True])
        self.same(shows_keeping(value=kept, spread=895, window=2, meter=PAIR), True)


class Keeping(Case):
    def setUp(self):
        rng = dice(151)
        self.meters = [random_meter(rng, 4, 12) for _ in range(100)] + [
            PAIR, SHORT, Meter(Exact(5), lost=1), Meter(Even(5, 2)), Meter(Grid(6), Exact(5), off=1)]

    def test_what_keeps_returns(self):
        for meter in self.meters:
            for window in (0, 1, 4, 9, 40):
                greatest = greatest_spread(meter, window)
                found = keeps(meter, window, greatest)
                for spread in (0, greatest, greatest + 1, greatest + 5, MOST):
                    self.same(shows_keeping(meter, window, spread, keeps(meter, window, spread)), True)
                    self.same(shows_keeping(meter, window, spread, found), spread <= greatest)

    def test_other_edges_of_a_kept(self):
        for meter in self.meters[::2]:
            for window in (0, 2, 7):
                spread = greatest_spread(meter, window)
                certificate = keeps(meter, window, spread).certificate
                for edge in [*range(-1, window + 3), *ANY]:
                    wanted = alike(edge, edge_of(meter, window))
                    self.same(shows_keeping(meter, window, spread, Kept(edge, certificate)), wanted, (edge, window))
                    self.same(shows_keeping(meter, window, 0, Kept(edge, certificate)), wanted)

    def test_certificates(self):
        for meter in (SHORT, Meter(Exact(4), Even(9, 1), Grid(2), lost=1), Meter(Exact(5), lost=1)):
            window = 3
            found = keeps(meter, window, 0)
            rows = found.certificate.tables
            for at, tables in enumerate(rows):
                for changed in (table_changes(tables) if tables else [(((1, ((0, 0),)),)), None, []]):
                    value = Kept(found.edge, Sure(with_item(rows, at, changed)))
                    self.same(shows_keeping(meter, window, 0, value), alike(changed, tables))
            for other in [*ANY, rows, Sure(rows[:-1]), Sure(rows + rows[:1]), Sure(list(rows)), Sure(()), found,
                          Unsure(0, 1, (), (), ()), sure(meter, 10 ** 9, 0), sure(PAIR, 1, 0)]:
                self.same(shows_keeping(meter, window, 0, Kept(found.edge, other)),
                          isinstance(other, Sure) and other == found.certificate)
            # any Sure with these tables is the same one
            self.same(shows_keeping(meter, window, 0, Kept(found.edge, sure(meter, 1, window))), True)

    def test_any_blind_edge_of_a_drifts(self):
        seen = {True: 0, False: 0}
        for meter in self.meters[::2]:
            for window in (0, 2, 7):
                spread = greatest_spread(meter, window) + 2
                counterexample = keeps(meter, window, spread).counterexample
                for edge in range(-2, window + 4):
                    wanted = (0 <= edge <= window and meter.is_blind(edge)
                              and shows_sure(meter, edge + spread + 1, window, counterexample))
                    seen[wanted] += 1
                    self.same(shows_keeping(meter, window, spread, Drifts(edge, counterexample)), wanted)
        self.assertGreater(min(seen.values()), 80)
        # 8 is blind for SHORT, and 12 is as far from it as from 9
        pair = pair_at(SHORT, 12)
        for edge in range(12):
            self.same(shows_keeping(SHORT, 11, 4, Drifts(edge, pair)), edge in (8, 9))

    def test_any_counterexample_of_a_drifts(self):
        for d in range(1, 1900):
            if PAIR.is_blind(d):
                for spread in (895, 896, 900, 2000):
                    wanted = 2 < d <= 2 + spread
                    self.same(shows_keeping(PAIR, 2, spread, Drifts(2, pair_at(PAIR, d))), wanted)
        moved = Unsure(1, 899, (0, 90 - 90), (), ())
        self.same(shows_sure(PAIR, 900, 2, moved), True)
        self.same([shows_keeping(PAIR, 2, spread, Drifts(2, moved)) for spread in (896, 897, 898)], [False, True, True])
        for other in [*ANY, Sure(()), sure(PAIR, 898, 2), Unsure(0, 897, (99, 89), (), ()), Drifts(2, moved)]:
            self.same(shows_keeping(PAIR, 2, 897, Drifts(2, other)), False)

    def test_kinds_of_papers(self):
        kept, lost = keeps(PAIR, 2, 895), keeps(PAIR, 2, 896)
        self.same(shows_keeping(PAIR, 2, 896, Kept(2, lost.counterexample)), False)
        self.same(shows_keeping(PAIR, 2, 895, Drifts(2, kept.certificate)), False)
        for edge in (True, "2", 2.0, None, (2,)):
            self.same(shows_keeping(PAIR, 2, 895, Kept(edge, kept.certificate)), False)
            self.same(shows_keeping(PAIR, 2, 896, Drifts(edge, lost.counterexample)), False)
        self.same(shows_keeping(PAIR, 2, 897, Drifts(True, lost.counterexample)), False)
        self.same(shows_keeping(PAIR, 2, 900, Drifts(False, lost.counterexample)), False)
        self.same(shows_keeping(PAIR, 2, 900, Drifts(0, lost.counterexample)), True)
        self.same(shows_keeping(PAIR, 0, 0, Kept(False, sure(PAIR, 1, 0))), False)
        self.same(shows_keeping(PAIR, 0, 0, Kept(0, sure(PAIR, 1, 0))), True)


class Wrong(Case):
    def test_no_papers(self):
        for value in [*ANY, sure(PAIR, 898, 2), PAIR, (2, None)]:
            self.same(shows_keeping(PAIR, 2, 895, value), False)
            self.same(shows_keeping(PAIR, 2, 896, value), False)
            for paper in (Kept, Drifts):
                self.same(shows_keeping(PAIR, 2, 895, paper(value, value)), False)
                self.same(shows_keeping(PAIR, 2, 895, paper(2, Sure(value))), False)
                self.same(shows_keeping(PAIR, 2, 895, paper(2, Unsure(*[value] * 5))), False)

    def test_errors(self):
        heavy = Meter(Wheel(FAR, 1000, 0), Exact(FAR - 1))
        for looked in (keeps(PAIR, 2, 895), None, 7):
            for value in [*ANY, Exact(5)]:
                self.raises(BadMeter("meter"), shows_keeping, value, None, None, looked)
                self.raises(BadMeter("meter"), shows_keeping, value, 0, 0, looked)
            for meter in (PAIR, heavy):
                for value in others(lambda value: is_int(value) and 0 <= value <= MOST) + [MOST + 1, -1]:
                    self.raises(BadNumber(value), shows_keeping, meter, value, None, looked)
                    self.raises(BadNumber(value), shows_keeping, meter, value, 0, looked)
                    self.raises(BadNumber(value), shows_keeping, meter, 0, value, looked)
                    self.raises(BadNumber(value), shows_keeping, meter, MOST, value, looked)

    def test_never_too_many(self):
        heavy = Meter(Wheel(FAR, 1000, 0), Exact(FAR - 1))
        self.raises(TooMany("runs", 2000), keeps, heavy, 5, FAR)
        self.same(shows_keeping(heavy, 5, FAR, Drifts(0, pair_at(heavy, FAR - 1))), True)
        self.same(shows_keeping(heavy, 5, FAR - 2, Drifts(0, pair_at(heavy, FAR - 1))), False)
        self.same(shows_keeping(heavy, 5, FAR, Drifts(1, pair_at(heavy, FAR - 1))), False)
        self.same(shows_keeping(heavy, 5, 0, Kept(0, Sure(((),)))), False)


if __name__ == "__main__":
    unittest.main()
