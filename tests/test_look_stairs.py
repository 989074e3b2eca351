"""look_stairs.py: shows_slip of right papers and of all that is a little otherwise."""

import unittest

from helpers import ANY, Case, alike, dice, is_int, others
from meter_helpers import random_meter
from wheelreach.errors import BadMeter, BadNumber, BadWheel, TooMany
from wheelreach.look_reaches import shows_sure
from wheelreach.look_stairs import shows_slip
from wheelreach.meters import Meter
from wheelreach.reaches import Sure, Unsure, pair_at, sure
from wheelreach.stairs import Slip, greatest_slip
from wheelreach.wheels import Even, Exact, Grid, Wheel

MOST = 10 ** 100
FAR = 10 ** 12
PAIR = Meter(Even(100, 1), Even(90, 1))


class Examples(Case):
    def test_examples(self):
        found = greatest_slip(PAIR, 896, 8, 10)
        self.same([shows_slip(PAIR, 896, 8, 10, found), shows_slip(PAIR, 896, 8, 1, found),
                   shows_slip(PAIR, 896, 8, 10, Slip(-1, None, None))], [True, False, False])
        self.same(shows_slip(value=found, most=10, window=8, reach=896, meter=PAIR), True)


class Right(Case):
    def test_what_greatest_slip_returns(self):
        rng = dice(131)
        for _ in range(300):
            meter = random_meter(rng, 4, 30, (0, 0, 0, 1))
            reach, window, most = rng.randint(1, 60), rng.randint(0, 9), rng.choice([0, 1, 2, 5, 20])
            found = greatest_slip(meter, reach, window, most)
            self.same(shows_slip(meter, reach, window, most, found), True)
            # only those k are right that are the greatest one
            for k in range(-1, most + 1):
                certificate = sure(meter.wider(k), reach, window) if k >= 0 else None
                counterexample = sure(meter.wider(k + 1), reach, window) if k < most else None
                self.same(shows_slip(meter, reach, window, most, Slip(k, certificate, counterexample)), k == found.k)

    def test_other_reaches_windows_and_mosts(self):
        found = greatest_slip(PAIR, 896, 8, 10)
        # the tables show each reach up to 896; the counterexample 94 is in the way of those above it
        for reach in (1, 50, 94, 95, 500, 896, 897, 898, MOST):
            self.same(shows_slip(PAIR, reach, 8, 10, found), 94 < reach <= 896)
        for window, wanted in ((0, False), (3, False), (4, True), (8, True), (93, True), (94, False), (MOST, False)):
            self.same(shows_slip(PAIR, 896, window, 10, found), wanted)
        for most in range(61):
            self.same(shows_slip(PAIR, 896, 8, most, found), most > 1)
        last = greatest_slip(PAIR, 896, 8, 1)
        for most in range(61):
            self.same(shows_slip(PAIR, 896, 8, most, last), most == 1)
        none = greatest_slip(PAIR, 899, 8, 10)
        for most in range(61):
            self.same(shows_slip(PAIR, 899, 8, most, none), True)
        for meter in (PAIR.wider(1), PAIR[:1], PAIR + PAIR, PAIR * 2, PAIR.with_numbers(0, 0, 1)):
            self.same(shows_slip(meter, 896, 8, 10, found), False)
        self.same(shows_slip(Meter(Wheel(100, 2, 0), Wheel(90, 0, 2)), 896, 8, 10, greatest_slip(
            Meter(Wheel(100, 2, 0), Wheel(90, 0, 2)), 896, 8, 10)), True)


class Changed(Case):
    def papers(self, meter, reach, window, most):
        """Certificates and counterexamples of all k."""
        rows = [None]
        for k in range(most + 2):
            rows.append(sure(meter.wider(k), reach, window))
        return rows

    def test_exchanged_and_left_out(self):
        for meter, reach, window, most in ((PAIR, 896, 8, 4), (PAIR, 899, 8, 3), (PAIR, 90, 8, 2), (PAIR, 92, 8, 3),
                                           (Meter(Exact(9), Grid(2), Exact(7), lost=1), 4, 1, 3),
                                           (Meter(Exact(5), lost=1), 9, 8, 2), (Meter(Exact(5), lost=1), 9, 7, 2)):
            found = greatest_slip(meter, reach, window, most)
            rows = [*self.papers(meter, reach, window, most), Sure(()), Unsure(0, 1, (), (), ()), found, *ANY]
            for k in [*range(-2, most + 2), *ANY]:
                value = Slip(k, found.certificate, found.counterexample)
                self.same(shows_slip(meter, reach, window, most, value), alike(k, found.k), (k, found.k))
            for other in rows:
                value = Slip(found.k, other, found.counterexample)
                self.same(shows_slip(meter, reach, window, most, value), right(other, found.certificate))
                value = Slip(found.k, found.certificate, other)
                self.same(shows_slip(meter, reach, window, most, value), right(other, found.counterexample))
            if found.certificate is not None and found.counterexample is not None:
                value = Slip(found.k, found.counterexample, found.certificate)
                self.same(shows_slip(meter, reach, window, most, value), False)

    def test_other_papers_that_shows_sure_lets(self):
        found = greatest_slip(PAIR, 896, 8, 10)
        wider = PAIR.wider(2)
        seen = {True: 0, False: 0}
        for d in range(1, 1000):
            if wider.is_blind(d):
                pair = pair_at(wider, d)
                wanted = shows_sure(wider, 896, 8, pair)
                seen[wanted] += 1
                self.same(shows_slip(PAIR, 896, 8, 10, Slip(1, found.certificate, pair)), wanted)
        self.assertGreater(min(seen.values()), 5)
        moved = Unsure(5, 99, (2, 6), (), ())
        self.same(shows_sure(wider, 896, 8, moved), True)
        self.same(shows_slip(PAIR, 896, 8, 10, Slip(1, found.certificate, moved)), True)
        self.same(shows_slip(PAIR, 896, 8, 10, Slip(1, Sure(found.certificate.tables), moved)), True)

    def test_kinds_of_k(self):
        found = greatest_slip(PAIR, 896, 8, 10)
        for k in (True, "1", 1.0, (1,), [1], None):
            self.same(shows_slip(PAIR, 896, 8, 10, Slip(k, found.certificate, found.counterexample)), False)
        zero = greatest_slip(PAIR, 898, 8, 10)
        self.same(zero.k, 0)
        self.same(shows_slip(PAIR, 898, 8, 10, Slip(False, zero.certificate, zero.counterexample)), False)


def right(value, wanted):
    """Whether a value of the tests equals the paper that is due, or None if that is due."""
    if wanted is None or value is None:
        return value is wanted
    return type(value) is type(wanted) and value == wanted


class Wrong(Case):
    def test_no_slips(self):
        for value in [*ANY, sure(PAIR, 896, 8), PAIR, Exact(5), (1, None, None)]:
            self.same(shows_slip(PAIR, 896, 8, 10, value), False)
            self.same(shows_slip(PAIR, 899, 8, 10, value), False)

    def test_any_attributes(self):
        for value in ANY:
            for at in range(3):
                fields = [1, None, None]
                fields[at] = value
                self.same(shows_slip(PAIR, 896, 8, 10, Slip(*fields)), False)
            self.same(shows_slip(PAIR, 896, 8, 10, Slip(value, value, value)), False)
            self.same(shows_slip(PAIR, 896, 8, 10, Slip(1, Sure(value), Unsure(*[value] * 5))), False)

    def test_errors_in_their_order(self):
        tight = Meter(Exact(5), Wheel(9, FAR, 0))
        for looked in (Slip(0, None, None), None, 7):
            for value in [*ANY, Exact(5)]:
                self.raises(BadMeter("meter"), shows_slip, value, None, None, None, looked)
            for meter in (PAIR, tight):
                for value in others(lambda value: is_int(value) and 1 <= value <= MOST) + [MOST + 1, 0]:
                    self.raises(BadNumber(value), shows_slip, meter, value, None, None, looked)
                    self.raises(BadNumber(value), shows_slip, meter, value, 0, 60, looked)
                for value in others(lambda value: is_int(value) and 0 <= value <= MOST) + [MOST + 1, -1]:
                    self.raises(BadNumber(value), shows_slip, meter, MOST, value, None, looked)
                    self.raises(BadNumber(value), shows_slip, meter, 1, value, 60, looked)
                for value in others(lambda value: is_int(value) and 0 <= value <= 60) + [61, -1]:
                    self.raises(BadNumber(value), shows_slip, meter, 1, 0, value, looked)
                    self.raises(BadNumber(value), shows_slip, meter, MOST, MOST, value, looked)
            self.raises(BadWheel("back"), shows_slip, tight, 1, 0, 1, looked)
            self.raises(BadWheel("ahead"), shows_slip, Meter(Wheel(5, 0, FAR - 59)), 1, 0, 60, looked)
            self.same(shows_slip(Meter(Wheel(5, 0, FAR - 60)), 1, 0, 60, looked), False)
        self.same(shows_slip(tight, 1, 0, 0, greatest_slip(tight, 1, 0, 0)), True)

    def test_never_too_many(self):
        heavy = Meter(Wheel(FAR, 1000, 0), Exact(FAR - 1))
        self.raises(TooMany("runs", 2000), greatest_slip, heavy, 10 ** 30, 5, 3)
        self.same(shows_slip(heavy, 10 ** 30, 5, 3, Slip(-1, None, pair_at(heavy, FAR - 1))), True)
        self.same(shows_slip(heavy, FAR - 1, 5, 3, Slip(-1, None, pair_at(heavy, FAR - 1))), False)
        self.same(shows_slip(heavy, 10 ** 30, 5, 3, Slip(0, Sure(()), pair_at(heavy.wider(1), FAR - 1))), False)


if __name__ == "__main__":
    unittest.main()
