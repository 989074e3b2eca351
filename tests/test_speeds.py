"""speeds.py: edges, spreads and moves, against blind differences and values tried one by one."""

import unittest

from helpers import ANY, Case, dice, is_int, others
from meter_helpers import random_meter
from wheelreach.errors import BadMeter, BadNumber, TooMany
from wheelreach.meters import Meter
from wheelreach.reaches import Sure, Unsure, reach_of, sure
from wheelreach.speeds import Drifts, Kept, edge_of, greatest_spread, keeps, left_by, sure_by_moves
from wheelreach.wheels import Even, Exact, Grid, Wheel

MOST = 10 ** 99
FARTHEST = 10 ** 100
FAR = 10 ** 12
TOO_MANY = TooMany("runs", 2000)
PAIR = Meter(Even(100, 1), Even(90, 1))
SHORT = Meter(Even(10, 1), Even(7, 1))
HEAVY = Meter(Wheel(FAR, 1000, 0), Exact(FAR - 1))
ALL_BLIND = Meter(Wheel(10, 1, 1), Wheel(20, 4, 4), lost=1)


class Examples(Case):
    def test_examples(self):
        self.same([edge_of(PAIR, 2), edge_of(PAIR, 500), greatest_spread(PAIR, 2), greatest_spread(PAIR, 500),
                   greatest_spread(PAIR, 1), greatest_spread(SHORT, 2)], [2, 2, 895, 895, 0, 5])
        kept, lost = keeps(PAIR, 2, 895), keeps(PAIR, 2, 896)
        self.same([bool(kept), kept.edge, bool(lost), lost.edge, lost.counterexample.high], [True, 2, False, 2, 898])
        self.same([left_by(1700, 5, -8, 100), left_by(10), left_by(10, 20, -20)], [1600, 10, 0])
        self.same([bool(sure_by_moves(PAIR, reach, 2, 5, -8, 100)) for reach in (998, 999)], [True, False])
        self.raises(BadNumber(None), left_by, 5, 1, None)


def random_meters(seed, many):
    rng = dice(seed)
    return [random_meter(rng, 4, 12) for _ in range(many)] + [
        PAIR, SHORT, ALL_BLIND, Meter(Exact(5), lost=1), Meter(Even(5, 2)), Meter(Grid(6), Exact(5), off=1)]


class Spreads(Case):
    def test_edge(self):
        for meter in random_meters(141, 150):
            edge = 0
            for window in range(60):
                if meter.is_blind(window):
                    edge = window
                self.same(edge_of(meter, window), edge)
        self.same(edge_of(window=500, meter=PAIR), 2)

    def test_greatest_spread_one_by_one(self):
        for meter in random_meters(142, 150):
            for window in (0, 1, 2, 5, 9, 30):
                edge, spread = edge_of(meter, window), 0
                while edge + spread + 1 <= window or not meter.is_blind(edge + spread + 1):
                    spread += 1
                self.same(greatest_spread(meter, window), spread)
                self.same(greatest_spread(meter, window), reach_of(meter, window) - edge - 1)
                for other, wanted in ((0, True), (spread, True), (spread + 1, False), (spread + 7, False)):
                    self.check(meter, window, other, keeps(meter, window, other), wanted)
        self.same(greatest_spread(window=2, meter=PAIR), 895)

    def check(self, meter, window, spread, found, wanted):
        edge = edge_of(meter, window)
        answer = sure(meter, edge + spread + 1, window)
        self.same((bool(answer), found.edge), (wanted, edge))
        if wanted:
            self.assertIs(type(found), Kept)
            self.assertIs(type(found.certificate), Sure)
            self.assertEqual(found.certificate, answer)
        else:
            self.assertIs(type(found), Drifts)
            self.assertIs(type(found.counterexample), Unsure)
            self.assertEqual(found.counterexample, answer)
        self.same(bool(found), wanted)

    def test_kept_for_ever(self):
        # two values that share a reading go on: each pair of steps changes their difference by at most the spread
        for meter in random_meters(143, 60):
            for window in (0, 2, 5):
                for spread in (0, 1, 2, 4):
                    reached = [d for d in range(-window, window + 1) if meter.is_blind(d)]
                    ahead, drifts = list(reached), False
                    while ahead and not drifts:
                        d = ahead.pop()
                        for other in range(d - spread, d + spread + 1):
                            if other not in reached and meter.is_blind(other):
                                reached.append(other)
                                ahead.append(other)
                                drifts = drifts or abs(other) > window
                    self.same(bool(keeps(meter, window, spread)), not drifts)
        self.same(bool(keeps(spread=895, window=2, meter=PAIR)), True)

    def test_all_blind(self):
        for meter in (ALL_BLIND, Meter(Exact(5), lost=1), Meter(Even(5, 2))):
            for window in (0, 3, MOST):
                self.same((edge_of(meter, window), greatest_spread(meter, window)), (window, 0))
                self.check(meter, window, 0, keeps(meter, window, 0), True)
                for spread in (1, MOST):
                    found = keeps(meter, window, spread)
                    self.check(meter, window, spread, found, False)
                    self.same((found.counterexample.low, found.counterexample.high), (0, window + 1))

    def test_far(self):
        base = MOST // 900 * 900
        self.same((edge_of(PAIR, MOST), greatest_spread(PAIR, MOST)), (base + 2, 895))
        self.same((bool(keeps(PAIR, MOST, 895)), bool(keeps(PAIR, MOST, 896)), bool(keeps(PAIR, MOST, MOST))),
                  (True, False, False))
        wheels = [Exact(FAR - n) for n in (11, 39, 61, 63, 91, 121, 137, 141)]
        far = Meter(*[Exact(FAR - n) for n in (11, 39)], *[Exact(n) for n in (7, 9)])
        whole = reach_of(far, 0)
        self.same((greatest_spread(far, 0), bool(keeps(far, 0, whole - 1)), bool(keeps(far, 0, whole))),
                  (whole - 1, True, False))
        self.same(greatest_spread(Meter(*wheels), 0), reach_of(Meter(*wheels), 0) - 1)

    def test_errors(self):
        for value in [*ANY, Exact(5)]:
            for work, more in ((edge_of, 1), (keeps, 2), (greatest_spread, 1)):
                self.raises(BadMeter("meter"), work, value, *[None] * more)
                self.raises(BadMeter("meter"), work, value, *[0] * more)
        for meter in (PAIR, HEAVY):
            for value in others(lambda value: is_int(value) and 0 <= value <= MOST) + [MOST + 1, FARTHEST, -1]:
                self.raises(BadNumber(value), edge_of, meter, value)
                self.raises(BadNumber(value), greatest_spread, meter, value)
                self.raises(BadNumber(value), keeps, meter, value, None)
                self.raises(BadNumber(value), keeps, meter, value, 0)
                self.raises(BadNumber(value), keeps, meter, 0, value)
                self.raises(BadNumber(value), keeps, meter, MOST, value)
        for window in (0, MOST):
            self.raises(TOO_MANY, edge_of, HEAVY, window)
            self.raises(TOO_MANY, greatest_spread, HEAVY, window)
            self.raises(TOO_MANY, keeps, HEAVY, window, 0)
            self.raises(TOO_MANY, keeps, HEAVY, window, MOST)
        just = Meter(Wheel(FAR, 999, 0), Exact(FAR - 1))
        self.same((edge_of(just, 5), greatest_spread(just, 0)), (0, FAR - 2))


def stays(reach, moves, value):
    places = [value]
    for move in moves:
        places.append(places[-1] + move)
    return all(0 <= place < reach for place in places)


class Moves(Case):
    def test_left_by_one_by_one(self):
        rng = dice(144)
        seen = {}
        for _ in range(600):
            reach = rng.randint(1, 40)
            moves = [rng.randint(-12, 12) for _ in range(rng.randint(0, 6))]
            wanted = len([value for value in range(reach) if stays(reach, moves, value)])
            self.same(left_by(reach, *moves), wanted)
            seen[wanted == 0] = seen.get(wanted == 0, 0) + 1
        self.assertGreater(min(seen.values()), 50)

    def test_left_by_edges(self):
        self.same([left_by(1), left_by(1, 0), left_by(1, 1), left_by(1, -1), left_by(2, 1), left_by(2, -1)],
                  [1, 1, 0, 0, 1, 1])
        self.same([left_by(10, 9), left_by(10, 10), left_by(10, -9), left_by(10, 5, -9), left_by(10, 5, -10),
                   left_by(10, 5, 4, -20), left_by(10, 3, 3, 3)], [1, 0, 1, 1, 0, 0, 1])
        self.same([left_by(FARTHEST), left_by(FARTHEST, FARTHEST - 1), left_by(FARTHEST, FARTHEST),
                   left_by(FARTHEST, 10 ** 119), left_by(FARTHEST, -10 ** 119, 10 ** 119)],
                  [FARTHEST, 1, 0, 0, 0])
        self.same(left_by(100, *[1] * 60), 40)
        self.same(left_by(100, *[-1, 1] * 30), 99)

    def test_left_by_errors(self):
        for value in others(lambda value: is_int(value) and 1 <= value <= FARTHEST) + [FARTHEST + 1, 0]:
            self.raises(BadNumber(value), left_by, value)
            self.raises(BadNumber(value), left_by, value, None, 1)
        for value in others(is_int):
            self.raises(BadNumber(value), left_by, 5, value)
            self.raises(BadNumber(value), left_by, 5, 1, 10 ** 119, value, "x", None)
            self.raises(BadNumber(value), left_by, 1, 7, -7, value)

    def test_sure_by_moves(self):
        rng = dice(145)
        for meter in random_meters(146, 60):
            for _ in range(8):
                reach, window = rng.randint(1, 40), rng.randint(0, 6)
                moves = [rng.randint(-9, 9) for _ in range(rng.randint(0, 4))]
                left = left_by(reach, *moves)
                found, wanted = sure_by_moves(meter, reach, window, *moves), sure(meter, max(left, 1), window)
                self.assertIs(type(found), type(wanted))
                self.assertEqual(found, wanted)
        self.same(bool(sure_by_moves(ALL_BLIND, 10, 0, 10)), True)
        self.same(bool(sure_by_moves(ALL_BLIND, 10, 0, 9)), True)
        self.same(bool(sure_by_moves(ALL_BLIND, 10, 0, 8)), False)
        self.same(sure_by_moves(ALL_BLIND, 10, 0).high, 1)
        self.same(bool(sure_by_moves(PAIR, FARTHEST, 2, FARTHEST - 898)), True)
        self.same(bool(sure_by_moves(PAIR, FARTHEST, 2, FARTHEST - 899)), False)
        self.same(sure_by_moves(PAIR, FARTHEST, FARTHEST), sure(PAIR, FARTHEST, FARTHEST))

    def test_what_moves_tell_of_the_begin(self):
        # readings without slips at the begin and behind each move: which values share all of them
        for meter in (Meter(Exact(5)), Meter(Exact(2), Exact(3)), Meter(Exact(4), Exact(6))):
            for moves in ((), (3,), (-2, 5), (1, 1, -4), (9, -9), (30,)):
                for reach in range(1, 25):
                    values = [x for x in range(reach) if stays(reach, moves, x)]
                    told = {}
                    for value in values:
                        told.setdefault(meter(value), []).append(value)
                    spread = max([max(row) - min(row) for row in told.values()], default=0)
                    for window in (0, 3, 6, 11):
                        self.same(bool(sure_by_moves(meter, reach, window, *moves)), spread <= window)

    def test_sure_by_moves_errors(self):
        for value in [*ANY, Exact(5)]:
            self.raises(BadMeter("meter"), sure_by_moves, value, None, None, None)
            self.raises(BadMeter("meter"), sure_by_moves, value, 1, 0, 1)
        for meter in (PAIR, HEAVY):
            for value in others(lambda value: is_int(value) and 1 <= value <= FARTHEST) + [FARTHEST + 1, 0]:
                self.raises(BadNumber(value), sure_by_moves, meter, value, None, None)
                self.raises(BadNumber(value), sure_by_moves, meter, value, 0, 5)
            for value in others(lambda value: is_int(value) and 0 <= value <= FARTHEST) + [FARTHEST + 1, -1]:
                self.raises(BadNumber(value), sure_by_moves, meter, 1, value, None)
                self.raises(BadNumber(value), sure_by_moves, meter, FARTHEST, value, 5)
            for value in others(is_int):
                self.raises(BadNumber(value), sure_by_moves, meter, FARTHEST, FARTHEST, value)
                self.raises(BadNumber(value), sure_by_moves, meter, 1, 0, 5, value, None)
        for moves in ((), (1,), (10 ** 119,)):
            self.raises(TOO_MANY, sure_by_moves, HEAVY, 1, 0, *moves)
            self.raises(TOO_MANY, sure_by_moves, HEAVY, FARTHEST, FARTHEST, *moves)


if __name__ == "__main__":
    unittest.main()
