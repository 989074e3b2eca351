"""logs.py: stretches against all begins and widths tried one by one; entries looked at one by one."""

import unittest

from helpers import ANY, Case, dice, is_int, others
from meter_helpers import may_come, places_off, random_meter
from wheelreach.errors import BadLog, BadMeter, BadNumber, BadWheel
from wheelreach.logs import Stretch, least_play, misread, periods_that_fit, plays, wheels_off
from wheelreach.meters import Meter
from wheelreach.wheels import Even, Exact, Grid, Wheel

FAR = 10 ** 12
PAIR = Meter(Even(100, 1), Even(90, 1))
ENTRIES = [(0, (99, 0)), (205, (6, 25)), (898, (99, None)), (450, [50, 3])]
NO_PERIODS = others(lambda value: is_int(value) and 2 <= value <= FAR) + [0, 1, FAR + 1, -5, 7.0]


def tried(period, offsets, skip):
    """The Stretch, by trying each width and each begin."""
    for width in range(period):
        for begin in range(period):
            left = tuple(at for at, offset in enumerate(offsets)
                         if offset not in {(begin + step) % period for step in range(width + 1)})
            if len(left) <= skip:
                return Stretch(begin, width, left)
    raise AssertionError


def parts(one):
    return (one.begin, one.width, one.left)


class Examples(Case):
    def test_examples(self):
        self.same([least_play(10, (9, 0, 1, 5), 0) == Stretch(5, 6, ()),
                   least_play(10, (9, 0, 1, 5), 1) == Stretch(9, 2, (3,)),
                   least_play(10, (4, 4), 2) == Stretch(0, 0, (0, 1))], [True, True, True])
        self.same([[parts(one) for one in plays((100, 90), ENTRIES, skip)] for skip in (0, 1)],
                  [[(99, 2, ()), (0, 3, ())], [(0, 1, (0,)), (0, 0, (3,))]])
        self.same([wheels_off(PAIR, ENTRIES), misread(PAIR, ENTRIES),
                   periods_that_fit([(3, (3,)), (17, (7,)), (28, (8,))], 0, 0, 30)],
                  [[(), (), (), (1,)], (2, 3), (10,)])
        self.raises(BadLog(1), least_play, 10, [3, 10], 0)

    def test_names_of_arguments(self):
        self.same(parts(least_play(skip=0, offsets=[3], period=10)), (3, 0, ()))
        self.same(len(plays(skip=0, entries=ENTRIES, periods=(100, 90))), 2)
        self.same(wheels_off(entries=ENTRIES, meter=PAIR), wheels_off(PAIR, ENTRIES))
        self.same(misread(entries=ENTRIES, meter=PAIR), (2, 3))
        self.same(periods_that_fit(most=5, play=0, place=0, entries=()), (2, 3, 4, 5))


class LeastPlay(Case):
    def test_all_widths_and_begins(self):
        rng = dice(261)
        for _ in range(700):
            period = rng.randint(2, 14)
            offsets = [rng.randrange(period) for _ in range(rng.randint(0, 8))]
            if offsets and rng.random() < 0.3:
                offsets = [rng.choice(offsets) for _ in offsets]
            for skip in {0, 1, rng.randint(0, 10), len(offsets), len(offsets) + 1, max(len(offsets) - 1, 0)}:
                found = least_play(period, rng.choice([list, tuple])(offsets), skip)
                self.assertIs(type(found), Stretch)
                self.same(parts(found), parts(tried(period, offsets, skip)), (period, offsets, skip))

    def test_edges(self):
        self.same(parts(least_play(2, (), 0)), (0, 0, ()))
        self.same(parts(least_play(FAR, [], 10 ** 119)), (0, 0, ()))
        self.same(parts(least_play(5, [0, 1, 2, 3, 4], 0)), (0, 4, ()))
        self.same(parts(least_play(5, [3], 0)), (3, 0, ()))
        self.same(parts(least_play(5, [3, 0], 2)), (0, 0, (0,)))
        # skip as many as there are, and more: the begin is 0, and what is there is not left out
        self.same(parts(least_play(5, [3, 0, 4], 10 ** 100)), (0, 0, (0, 2)))
        # as many may be left out, but fewer need to be
        self.same(parts(least_play(10, [1, 2, 1, 8], 2)), (1, 0, (1, 3)))
        self.same(parts(least_play(10, [1, 1, 1, 8], 2)), (1, 0, (3,)))

    def test_great_periods(self):
        offsets = [FAR - 1, 0, 5, FAR // 2]
        self.same([parts(least_play(FAR, offsets, skip)) for skip in (0, 1, 2, 3, 4)],
                  [(FAR - 1, FAR // 2 + 1, ()), (FAR - 1, 6, (3,)), (FAR - 1, 1, (2, 3)), (0, 0, (0, 2, 3)),
                   (0, 0, (0, 2, 3))])
        spread = [at * (FAR // 60) for at in range(60)]
        self.same(parts(least_play(FAR, spread, 0)), (0, 59 * (FAR // 60), ()))
        self.same(parts(least_play(FAR, spread[::-1], 59)), (0, 0, tuple(range(59))))

    def test_errors_in_their_order(self):
        for value in NO_PERIODS:
            self.raises(BadWheel("period"), least_play, value, None, None)
            self.raises(BadWheel("period"), least_play, value, [0], 0)
        for value in others(lambda value: isinstance(value, (list, tuple))) + [[0] * 61, (None,) * 61, "0" * 5, {0}]:
            self.raises(BadLog(None), least_play, 10, value, None)
            self.raises(BadLog(None), least_play, 10, value, 0)
        self.same(parts(least_play(10, [0] * 60, 0)), (0, 0, ()))
        for value in others(lambda value: is_int(value) and 0 <= value <= 9) + [-1, 10, 3.0]:
            self.raises(BadLog(0), least_play, 10, [value], None)
            self.raises(BadLog(2), least_play, 10, (0, 9, value, None), None)
            self.raises(BadLog(59), least_play, 10, [0] * 59 + [value], 0)
        for value in others(lambda value: is_int(value) and value >= 0) + [-1, 0.0]:
            self.raises(BadNumber(value), least_play, 10, [0], value)
            self.raises(BadNumber(value), least_play, 10, (), value)


def random_log(rng, meter, many):
    """Entries of a meter, some lost, some off."""
    entries = []
    for _ in range(rng.randint(0, many)):
        value = rng.choice([rng.randint(-50, 200), rng.randint(-10 ** 30 + 1, 10 ** 30 - 1)])
        marks = [None if rng.random() < 0.15 else (value + rng.choice([0, 0, 0, 1, -1, rng.randint(0, 9)])) % wheel.period
                 for wheel in meter.wheels]
        entries.append((value, rng.choice([list, tuple])(marks)))
    return rng.choice([list, tuple])(entries)


class Entries(Case):
    def setUp(self):
        rng = dice(262)
        self.rows = []
        for _ in range(300):
            meter = random_meter(rng, 5, 14)
            self.rows.append((meter, random_log(rng, meter, 8)))
        self.rows.append((Meter(*[Exact(FAR)] * 8), [(10 ** 30 - 1, [None] * 7 + [FAR - 1])] * 60))

    def test_entry_by_entry(self):
        wrong = 0
        for meter, entries in self.rows:
            ahead = repr(entries)
            wanted = [places_off(meter, tuple(marks), value) for value, marks in entries]
            self.same(wheels_off(meter, entries), wanted)
            bad = tuple(at for at, (value, marks) in enumerate(entries)
                        if not may_come(meter, tuple(marks), value)
                        or any(wheel.TRUSTED and mark is None for wheel, mark in zip(meter.wheels, marks)))
            self.same(misread(meter, entries), bad)
            wrong += len(bad)
            self.same(repr(entries), ahead)
        self.assertGreater(wrong, 200)

    def test_numbers_of_the_meter(self):
        entries = [(0, (0, 0, 0, 0)), (0, (1, 0, 0, 0)), (0, (1, 1, 0, 0)), (0, (1, 1, 1, 0)), (0, (None, 0, 0, 0)),
                   (0, (None, None, 0, 0)), (0, (None, 1, 0, 0)), (0, (0, 0, 0, 1)), (0, (0, 0, 0, None))]
        four = Meter(Exact(5), Exact(6), Exact(7), Grid(4))
        rows = {(0, 0, 0): (1, 2, 3, 4, 5, 6, 7, 8), (1, 0, 0): (2, 3, 4, 5, 6, 7, 8), (0, 1, 0): (2, 3, 4, 5, 6, 7, 8),
                (1, 1, 0): (3, 4, 5, 6, 7, 8), (0, 2, 0): (3, 4, 5, 6, 7, 8), (0, 0, 1): (1, 2, 3, 5, 6, 7, 8),
                (1, 0, 1): (2, 3, 5, 7, 8), (0, 0, 2): (1, 2, 3, 6, 7, 8), (8, 8, 8): (7, 8)}
        for numbers, wanted in rows.items():
            self.same(misread(four.with_numbers(*numbers), entries), wanted)
            self.same(wheels_off(four.with_numbers(*numbers), entries),
                      [(), (0,), (0, 1), (0, 1, 2), (), (), (1,), (3,), ()])

    def test_plays(self):
        rng = dice(263)
        for meter, entries in self.rows[:200]:
            periods = [wheel.period for wheel in meter.wheels]
            for skip in (0, 1, rng.randint(0, 9), 10 ** 50):
                found = plays(rng.choice([list, tuple])(periods), entries, skip)
                self.same(len(found), len(periods))
                for place, period in enumerate(periods):
                    heard = [(at, (marks[place] - value) % period) for at, (value, marks) in enumerate(entries)
                             if marks[place] is not None]
                    wanted = tried(period, [offset for at, offset in heard], skip)
                    wanted = (wanted.begin, wanted.width, tuple(heard[at][0] for at in wanted.left))
                    self.same(parts(found[place]), wanted)

    def test_great_values(self):
        most = 10 ** 30 - 1
        self.same(parts(plays((FAR,), [(most, (FAR - 1,)), (-most, (1,))], 0)[0]), (0, 0, ()))
        self.same(wheels_off(Meter(Exact(FAR)), [(most, (FAR - 1,)), (-most, (1,)), (most, (0,))]), [(), (), (0,)])
        for value in (most + 1, -most - 1, 10 ** 119):
            self.raises(BadLog(1), plays, (FAR,), [(0, (0,)), (value, (0,))], 0)
            self.raises(BadLog(1), misread, Meter(Exact(FAR)), [(0, (0,)), (value, (0,))])
            self.raises(BadLog(0), periods_that_fit, [(value, (0,))], 0, 0, 5)

    def test_no_entries(self):
        for entries in ((), []):
            self.same((wheels_off(PAIR, entries), misread(PAIR, entries)), ([], ()))
            self.same([parts(one) for one in plays([5, 7], entries, 0)], [(0, 0, ()), (0, 0, ())])

    def test_lists_are_new(self):
        one = wheels_off(PAIR, ENTRIES)
        one.append("x")
        self.same(len(wheels_off(PAIR, ENTRIES)), 4)


class Wrong(Case):
    """Entries that are none for wheels with the periods 100 and 90."""

    def setUp(self):
        good = (5, (99, 0))
        self.no_logs = others(lambda value: isinstance(value, (list, tuple))) + [[good] * 61, (None,) * 61, {}]
        self.no_entries = [value for value in ANY] + [
            [5, (99, 0)], (5,), (5, (99, 0), 0), (5, (99,)), (5, (99, 0, 0)), (5, ()), (5, []), (5, {0: 0, 1: 0}),
            (5, "ab"), (5, None), (None, (99, 0)), (True, (99, 0)), ("5", (99, 0)), (5.0, (99, 0)), (5, (100, 0)),
            (5, (99, 90)), (5, (-1, 0)), (5, (99, -1)), (5, (True, 0)), (5, (99, False)), (5, ("99", 0)),
            (5, (99, (0,))), (10 ** 30, (99, 0)), (-10 ** 30, (99, 0)), (5, (99.0, 0)), ((99, 0), 5)]

    def test_entries(self):
        good = (5, (99, 0))
        for work in (lambda log: plays((100, 90), log, None), lambda log: wheels_off(PAIR, log),
                     lambda log: misread(PAIR, log), lambda log: plays([100, 90], log, 0)):
            for value in self.no_logs:
                self.raises(BadLog(None), work, value)
            for value in self.no_entries:
                self.raises(BadLog(0), work, [value])
                self.raises(BadLog(2), work, (good, good, value, None, value))
                self.raises(BadLog(59), work, [good] * 59 + [value])
        self.same((misread(PAIR, [good] * 60), len(wheels_off(PAIR, [good] * 60))), (tuple(range(60)), 60))
        self.same(misread(PAIR, [(5, (None, 0))] * 2), (0, 1))

    def test_periods(self):
        for value in others(lambda value: isinstance(value, (list, tuple))) + [[], (), [7] * 9, "77"]:
            self.raises(BadWheel("period"), plays, value, None, None)
        for period in NO_PERIODS:
            self.raises(BadWheel("period"), plays, [period], None, None)
            self.raises(BadWheel("period"), plays, (5, period), [(0, (0, 0))], 0)
        self.same(len(plays([2, FAR] * 4, [(0, [0] * 8)], 0)), 8)

    def test_skip(self):
        for value in others(lambda value: is_int(value) and value >= 0) + [-1]:
            self.raises(BadNumber(value), plays, (100, 90), ENTRIES, value)
            self.raises(BadNumber(value), plays, (100, 90), [], value)
            self.raises(BadLog(0), plays, (100, 90), [None], value)

    def test_meters(self):
        for value in [*ANY, (100, 90), Exact(5)]:
            for work in (wheels_off, misread):
                self.raises(BadMeter("meter"), work, value, None)
                self.raises(BadMeter("meter"), work, value, ENTRIES)


class PeriodsThatFit(Case):
    def by_hand(self, entries, place, play, most):
        found = []
        for period in range(2, most + 1):
            heard = [(value, marks[place]) for value, marks in entries if marks[place] is not None]
            if any(mark >= period for _, mark in heard):
                continue
            if tried(period, [(mark - value) % period for value, mark in heard], 0).width <= play:
                found.append(period)
        return tuple(found)

    def test_one_by_one(self):
        rng = dice(264)
        some = 0
        for _ in range(120):
            period = rng.randint(3, 12)
            slip = rng.choice([0, 0, 1, 2])
            entries = []
            for _ in range(rng.randint(0, 5)):
                value = rng.randint(-60, 60)
                marks = [rng.choice([None, 0, 10 ** 100]), (value + rng.randint(-slip, slip) + 2) % period]
                entries.append((value, rng.choice([list, tuple])([*marks[:1], rng.choice([None, *marks[1:] * 5])])))
            for play in (0, 1, 2 * slip, 30):
                found = periods_that_fit(rng.choice([list, tuple])(entries), 1, play, 24)
                self.same(found, self.by_hand(entries, 1, play, 24))
                some += 0 < len(found) < 23
                if play == 2 * slip:
                    self.assertIn(period, found)
        self.assertGreater(some, 150)

    def test_edges(self):
        self.same(periods_that_fit((), 0, 0, 2), (2,))
        self.same(periods_that_fit((), 10 ** 119, 10 ** 119, 1000), tuple(range(2, 1001)))
        self.same(periods_that_fit([(7, (None, 3))] * 60, 0, 0, 4), (2, 3, 4))
        self.same(periods_that_fit([(0, (5,))], 0, 0, 8), (6, 7, 8))
        self.same(periods_that_fit([(0, (5,))], 0, 0, 5), ())
        self.same(periods_that_fit([(0, (10 ** 119,))], 0, 0, 1000), ())
        self.same(periods_that_fit([(0, (0,)), (999, (0,))], 0, 0, 1000), (3, 9, 27, 37, 111, 333, 999))
        self.same(periods_that_fit([(0, (0,)), (1, (0,))], 0, 1, 10), tuple(range(2, 11)))
        self.same(periods_that_fit([(0, (0,)), (1, (0,))], 0, 0, 10), ())
        # marks of other places are of any size
        self.same(periods_that_fit([(0, (10 ** 119, 1, None))], 1, 0, 3), (2, 3))

    def test_errors_in_their_order(self):
        for value in others(lambda value: is_int(value) and value >= 0) + [-1, 0.0]:
            self.raises(BadNumber(value), periods_that_fit, None, value, None, None)
            self.raises(BadNumber(value), periods_that_fit, None, 0, value, None)
            self.raises(BadNumber(value), periods_that_fit, [], value, 0, 5)
            self.raises(BadNumber(value), periods_that_fit, [], 0, value, 5)
        for value in others(lambda value: is_int(value) and 2 <= value <= 1000) + [0, 1, 1001, -5]:
            self.raises(BadNumber(value), periods_that_fit, None, 0, 0, value)
            self.raises(BadNumber(value), periods_that_fit, [], 0, 0, value)
        for value in others(lambda value: isinstance(value, (list, tuple))) + [[(0, (0,))] * 61]:
            self.raises(BadLog(None), periods_that_fit, value, 0, 0, 5)
        for value in [*ANY, (5, ()), (5, (0,)), (5, [0]), (5, (-1, 0)), (5, (True, 0)), (5, (0, "0")), (5, "00"),
                      (5, (0, 0), 0), [5, (0, 0)], (10 ** 30, (0, 0)), (-10 ** 30, (0, 0)), (None, (0, 0)),
                      (5, (0, 0, -1)), (5, (0, 0, 1.0)), (5, {0: 0, 1: 1})]:
            self.raises(BadLog(0), periods_that_fit, [value], 1, 0, 5)
            self.raises(BadLog(1), periods_that_fit, ((5, (0, 0, 7)), value, None), 1, 0, 5)
        self.same(periods_that_fit([(0, (0, 0))] * 60, 1, 0, 3), (2, 3))
        self.raises(BadLog(0), periods_that_fit, [(0, (0, 0))], 2, 0, 3)


if __name__ == "__main__":
    unittest.main()
