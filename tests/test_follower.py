"""follower.py: what is left of the values behind each deed, against all values tried one by one."""

import unittest

from helpers import ANY, Case, dice, is_int, others
from meter_helpers import random_meter
from reading_helpers import lets_fit, random_reading, runs_of
from wheelreach.errors import BadFollower, BadMark, BadNumber, Nothing, TooMany, Unfit
from wheelreach.follower import Follower
from wheelreach.meters import Meter
from wheelreach.numbers import multiple
from wheelreach.wheels import Even, Exact, Grid, Wheel

MOST = 10 ** 100
FAR = 10 ** 12
TWO = Meter(Even(100, 1), Even(90, 1))
HEAVY = Meter(Wheel(FAR, 2000, 0), Exact(FAR - 1), lost=1)


def state(follower):
    return (follower.meter, follower.reach, follower.runs, follower.deeds)


class Examples(Case):
    def test_examples(self):
        follower = Follower(TWO, 1700)
        self.same(follower.hear((40, 70)), None)
        self.same([follower.runs, follower.span, follower.known, 1240 in follower, follower.is_within(2)],
                  [((339, 341), (1239, 1241)), 902, None, True, False])
        self.same(follower.move(0, 600), None)
        self.same([follower.runs, follower((0, 0)), follower.runs, len(follower)],
                  [((339, 941), (1239, 1699)), 2, ((899, 901),), 1])
        self.same([follower.undo(), follower.undo(), follower.deeds,
                   follower.tried(lambda same: same.replay("move 5 -5", "hear 35 65")), follower.runs[0]],
                  ['hear 0 0', 'move 0 600', ('hear 40 70',), None, (339, 341)])
        self.raises(Unfit(), follower.hear, (40, 75))


class Watched:
    """The values that a watched value can have, one by one."""

    def __init__(self, meter, reach):
        self.meter, self.reach, self.values = meter, reach, list(range(reach))

    def after(self, deed, told):
        """The meter, the reach and the values behind a deed."""
        if deed == "hear":
            return self.meter, self.reach, [x for x in self.values if lets_fit(self.meter, told, x)]
        if deed == "move":
            back, ahead = told
            return self.meter, self.reach, [y for y in range(self.reach)
                                            if any(-back <= y - x <= ahead for x in self.values)]
        if deed == "reach":
            return self.meter, told, [x for x in self.values if x < told]
        return told, self.reach, self.values


class Deeds(Case):
    def random_deed(self, rng, watched):
        deed = rng.choice(["hear", "hear", "hear", "move", "move", "reach", "meter"])
        if deed == "hear":
            if rng.random() < 0.7:
                value = rng.choice(watched.values)
                marks = [(value + rng.choice([0, 0, 0, 1])) % wheel.period for wheel in watched.meter]
                if watched.meter.lost and rng.random() < 0.5:
                    at = rng.randrange(len(marks))
                    marks[at] = marks[at] if watched.meter[at].TRUSTED else None
                return deed, tuple(marks)
            return deed, random_reading(rng, watched.meter)
        if deed == "move":
            back = rng.randint(-9, 9)
            return deed, (back, -back + rng.choice([0, 0, 1, 3, 8]))
        if deed == "reach":
            return deed, max(1, watched.reach + rng.randint(-9, 9))
        return deed, random_meter(rng, 3, 12, (0, 0, 1))

    def do(self, follower, deed, told):
        if deed == "hear":
            follower.hear(told)
        elif deed == "move":
            follower.move(*told)
        elif deed == "reach":
            follower.reach = told
        else:
            follower.meter = told

    def test_one_by_one_along_several_deeds(self):
        rng = dice(241)
        seen = {}
        for _ in range(150):
            watched = Watched(random_meter(rng, 3, 12, (0, 0, 1)), rng.randint(1, 70))
            follower = Follower(watched.meter, watched.reach)
            for _ in range(12):
                deed, told = self.random_deed(rng, watched)
                meter, reach, values = watched.after(deed, told)
                key = (deed, bool(values))
                seen[key] = seen.get(key, 0) + 1
                ahead = state(follower)
                if not values:
                    self.raises(BadFollower("reach") if deed == "reach" else Unfit(), self.do, follower, deed, told)
                    self.same(state(follower) == ahead, True)
                    continue
                self.do(follower, deed, told)
                watched.meter, watched.reach, watched.values = meter, reach, values
                self.same(follower.runs, runs_of(values), (deed, told))
                self.same((follower.meter == meter, follower.reach, len(follower.deeds)), (True, reach, len(ahead[3]) + 1))
        self.assertGreater(min(seen.get(key, 0) for key in (("hear", False), ("move", False), ("reach", False))), 10)

    def test_what_it_tells(self):
        rng = dice(242)
        for _ in range(100):
            watched = Watched(random_meter(rng, 3, 9, (0, 0, 1)), rng.randint(1, 60))
            follower = Follower(watched.meter, watched.reach)
            for deed in ("hear", "move"):
                told = random_reading(rng, watched.meter) if deed == "hear" else (rng.randint(-3, 2), 3)
                _, _, values = watched.after(deed, told)
                if values:
                    self.do(follower, deed, told)
                    watched.values = values
            values = watched.values
            self.same([x for x in range(-9, 80) if x in follower], values)
            self.same((follower.span, follower.known), (values[-1] - values[0], values[0] if len(values) == 1 else None))
            self.same((len(follower), list(follower), tuple(follower)), (len(follower.runs), list(follower.runs),
                                                                         follower.runs))
            for window in (0, follower.span - 1, follower.span, follower.span + 1, 10 ** 119):
                if window >= 0:
                    self.same(follower.is_within(window), follower.span <= window)
            self.same(bool(follower), True)

    def test_hear_and_call(self):
        for marks in ((40, 70), [40, 70]):
            follower, other = Follower(TWO, 1700), Follower(TWO, 1700)
            self.same((follower.hear(marks), other(marks)), (None, 902))
            self.same((follower.runs, follower.deeds), (other.runs, ("hear 40 70",)))
            self.same(follower(marks=marks), 902)
        lost = Follower(Meter(Exact(5), Exact(7), Grid(2), lost=1), 70)
        self.same((lost((3, None, 1)), lost.deeds, lost.runs[:2]), (60, ("hear 3 - 1",), ((3, 3), (13, 13))))
        marks = [40, 70]
        follower = Follower(TWO, 1700)
        follower.hear(marks)
        marks[0] = 7
        self.same((follower.deeds, follower.undo()), (("hear 40 70",), "hear 40 70"))

    def test_other_wheels_can_be_off_each_time(self):
        follower = Follower(Meter(Exact(5), Exact(7), Exact(9), off=1), 40)
        follower.hear((3, 3, 0))
        self.same(follower.runs, ((3, 3), (18, 18), (38, 38)))
        follower.hear((3, 2, 2))
        self.same(follower.runs, ((38, 38),))
        self.same((follower.known, follower.span), (38, 0))

    def test_move(self):
        for back, ahead, wanted in ((0, 0, ((10, 12), (20, 20))), (1, 0, ((9, 12), (19, 20))), (0, 8, ((10, 28),)),
                                    (0, 7, ((10, 27),)), (0, 6, ((10, 18), (20, 26))), (-3, 3, ((13, 15), (23, 23))),
                                    (-3, 5, ((13, 17), (23, 25))), (11, -11, ((0, 1), (9, 9))), (15, -12, ((0, 0), (5, 8))),
                                    (12, -9, ((0, 3), (8, 11))), (-20, 25, ((30, 37),)), (100, 100, ((0, 39),)),
                                    (-19, 19, ((29, 31), (39, 39))), (-27, 27, ((37, 39),)), (20, -20, ((0, 0),)),
                                    (-29, 30, ((39, 39),)), (10 ** 119, 10 ** 119, ((0, 39),))):
            follower = Follower.begun(Meter(Exact(7)), 40, ((10, 12), (20, 20)))
            follower.move(back, ahead)
            self.same((follower.runs, follower.deeds), (wanted, (f"move {back} {ahead}",)))
            self.same((follower.undo(), follower.runs), (f"move {back} {ahead}", ((10, 12), (20, 20))))
        for back, ahead in ((-30, 30), (21, -21), (-30, 10 ** 119), (10 ** 119, -21), (-10 ** 119, 10 ** 119)):
            follower = Follower.begun(Meter(Exact(7)), 40, ((10, 12), (20, 20)))
            self.raises(Unfit(), follower.move, back, ahead)
            self.same((follower.runs, follower.deeds), (((10, 12), (20, 20)), ()))
        follower = Follower(TWO, 9)
        follower.move(ahead=4, back=-4)
        self.same(follower.runs, ((4, 8),))
        # what the package returned may be passed, whatever its size
        great = multiple(*[10 ** 119 + at for at in range(50)])
        follower.move(great, great)
        self.same((follower.runs, len(follower.deeds[1]) > 9000), (((0, 8),), True))
        self.raises(Unfit(), follower.move, great, -great)
        self.raises(Unfit(), follower.move, -great, great)
        self.raises(BadNumber(great), follower.move, -great - 1, great)

    def test_reach_and_meter(self):
        follower = Follower.begun(TWO, 40, ((10, 12), (20, 20)))
        for reach, wanted in ((21, ((10, 12), (20, 20))), (20, ((10, 12),)), (12, ((10, 11),)), (11, ((10, 10),)),
                              (500, ((10, 10),)), (MOST, ((10, 10),)), (MOST, ((10, 10),))):
            follower.reach = reach
            self.same((follower.reach, follower.runs), (reach, wanted))
        self.same(follower.deeds[-2:], (f"reach {MOST}",) * 2)
        before = state(follower)
        for reach in (10, 9, 1):
            with self.assertRaises(BadFollower) as caught:
                follower.reach = reach
            self.same((caught.exception.part, type(caught.exception.__cause__)), ("reach", Unfit))
            self.same(state(follower) == before, True)
        seven = Meter(Exact(7))
        follower.meter = seven
        follower.meter = seven
        self.same((follower.meter == seven, follower.runs, follower.deeds[-2:]), (True, ((10, 10),), (f"meter {seven}",) * 2))
        self.raises(BadMark(None), follower.hear, (40, 70))
        follower.hear((3,))
        self.same((follower.undo(), follower.undo(), follower.undo(), follower.meter == TWO), ("hear 3", f"meter {seven}",
                                                                                             f"meter {seven}", True))
        # moves go by the reach as it is, also where it has grown
        follower.move(0, 10 ** 50)
        self.same((follower.runs, follower.undo(), follower.undo(), follower.undo(), follower.reach),
                  (((10, 10 + 10 ** 50),), f"move 0 {10 ** 50}", f"reach {MOST}", f"reach {MOST}", 500))

    def test_undo_back_to_the_first_moment(self):
        rng = dice(243)
        for _ in range(40):
            watched = Watched(random_meter(rng, 3, 9, (0, 0, 1)), rng.randint(10, 60))
            follower = Follower(watched.meter, watched.reach)
            moments = []
            for _ in range(8):
                deed, told = self.random_deed(rng, watched)
                after = watched.after(deed, told)
                if after[2]:
                    moments.append(state(follower))
                    self.do(follower, deed, told)
                    watched.meter, watched.reach, watched.values = after
            while moments:
                last = follower.deeds[-1]
                self.same(follower.undo(), last)
                self.same(state(follower) == moments.pop(), True)
            self.raises(Nothing(), follower.undo)
            self.same((follower.deeds, follower.runs[0][0]), ((), 0))

    def test_far(self):
        follower = Follower(TWO, MOST)
        self.raises(TooMany("runs", 500), follower.hear, (40, 70))
        follower.move(-MOST + 10 ** 4, MOST)
        self.same(follower.runs, ((MOST - 10 ** 4, MOST - 1),))
        follower.hear((40, 70))
        self.same(len(follower), 11)
        self.same([TWO(begin + 1) for begin, end in follower][1:], [(40, 70)] * 10)
        wheels = Meter(*[Exact(FAR - n) for n in (11, 39, 61, 63)])
        follower = Follower(wheels, 10 ** 47)
        value = 3 * 10 ** 46 + 77
        self.same((follower(wheels(value)), follower.known), (0, value))


class Bounds(Case):
    def test_500_runs(self):
        seven = Meter(Exact(7))
        follower = Follower(seven, 3500)
        follower.hear((0,))
        self.same(len(follower), 500)
        follower = Follower(seven, 3501)
        self.raises(TooMany("runs", 500), follower.hear, (0,))
        self.same((follower.runs, follower.deeds), (((0, 3500),), ()))
        # several runs that are parted further
        begun = Follower.begun(Meter(Exact(2)), 3000, ((0, 499), (600, 1100)))
        begun.hear((1,))
        self.same(len(begun), 500)
        begun = Follower.begun(Meter(Exact(2)), 3000, ((0, 499), (600, 1101), (2000, 2000)))
        self.raises(TooMany("runs", 500), begun.hear, (1,))
        self.same(len(begun), 3)

    def test_heavy_readings(self):
        for runs in (((0, MOST - 1),), ((5, 5),)):
            follower = Follower.begun(HEAVY, MOST, runs)
            self.raises(TooMany("runs", 2000), follower.hear, (0, 0))
            self.raises(TooMany("runs", 2000), follower, (0, 0))
            self.same((follower.runs, follower.deeds), (runs, ()))
        follower.hear((5, None))
        self.same(follower.known, 5)
        self.same(Follower.begun(Meter(Wheel(FAR, 0, 1999), Exact(FAR - 1)), MOST, ((5, 5),))((5, 5)), 0)


class Making(Case):
    def test_made(self):
        follower = Follower(TWO, 5)
        self.same((follower.runs, follower.deeds, follower.meter == TWO, follower.reach), (((0, 4),), (), True, 5))
        self.same(Follower(reach=1, meter=TWO).known, 0)
        self.same(Follower(TWO, MOST).span, MOST - 1)
        self.assertIn("runs", vars(follower))

    def test_wrong(self):
        for value in [*ANY, Exact(5)]:
            for reach in (None, 5):
                self.raises(BadFollower("meter"), Follower, value, reach)
                self.raises(BadFollower("meter"), Follower.begun, value, reach, None)
            follower = Follower(TWO, 5)
            with self.assertRaises(BadFollower) as caught:
                follower.meter = value
            self.same((caught.exception.part, follower.deeds, follower.meter == TWO), ("meter", (), True))
        for value in others(lambda value: is_int(value) and 1 <= value <= MOST) + [MOST + 1, 0]:
            self.raises(BadFollower("reach"), Follower, TWO, value)
            self.raises(BadFollower("reach"), Follower.begun, TWO, value, None)
            follower = Follower(TWO, 5)
            with self.assertRaises(BadFollower) as caught:
                follower.reach = value
            self.same((caught.exception.part, follower.deeds, follower.reach), ("reach", (), 5))
            self.assertIsNone(caught.exception.__cause__)

    def test_begun(self):
        for runs in (((0, 0),), ((0, 39),), ((39, 39),), ((0, 3), (5, 5), (8, 39)), ((0, 0), (2, 2), (4, 4))):
            follower = Follower.begun(TWO, 40, runs)
            self.same((follower.runs, follower.deeds, follower.reach), (runs, (), 40))
            self.raises(Nothing(), follower.undo)
        wrong = [(), ((0, 40),), ((-1, 3),), ((40, 40),), ((3, 2),), ((0, 3), (4, 5)), ((0, 3), (3, 5)), ((5, 6), (0, 3)),
                 ((0, 3), (0, 3)), [(0, 3)], ([0, 3],), ((0, 3, 5),), ((0,),), (0, 3), ((True, 3),), ((0, True),),
                 ((0, 3), None), (("0", 3),), ((0, 3.0),), {(0, 3): 1}, "((0, 3),)"]
        for runs in wrong + [value for value in ANY if value != ((0, 0), (1, 1))] + [((0, 0), (1, 1))]:
            self.raises(BadFollower("runs"), Follower.begun, TWO, 40, runs)
        many = tuple((2 * at, 2 * at) for at in range(501))
        self.same(len(Follower.begun(runs=many[:500], reach=2000, meter=TWO)), 500)
        self.raises(BadFollower("runs"), Follower.begun, TWO, 2000, many)
        self.same(Follower.begun(TWO, 999, many[:500]).known, None)
        self.raises(BadFollower("runs"), Follower.begun, TWO, 998, many[:500])

    def test_equal(self):
        follower = Follower(TWO, 1700)
        self.same((follower == Follower(TWO, 1700), follower != Follower(TWO, 1700)), (True, False))
        for other in (Follower(TWO, 1701), Follower.begun(TWO, 1701, ((0, 1699),)), Follower(TWO.wider(1), 1700),
                      Follower.begun(TWO, 1700, ((0, 1698),)), *ANY, TWO, follower.runs):
            self.same((follower == other, follower != other, other == follower), (False, True, False))
        # the deeds do not count
        follower.move(1, 1)
        self.same((follower == Follower(TWO, 1700), len(follower.deeds)), (True, 1))
        follower.hear((40, 70))
        self.same(follower == Follower.begun(TWO, 1700, ((339, 341), (1239, 1241))), True)

    def test_twin(self):
        follower = Follower(TWO, 1700)
        follower.hear((40, 70))
        twin = follower.twin()
        self.assertIs(type(twin), Follower)
        self.same((twin == follower, twin.deeds, twin.runs), (True, (), follower.runs))
        self.raises(Nothing(), twin.undo)
        twin.move(5, 5)
        twin.meter = Meter(Exact(7))
        twin.reach = 1000
        self.same((follower.runs, follower.deeds, follower.reach), (((339, 341), (1239, 1241)), ("hear 40 70",), 1700))
        twin = follower.twin()
        follower.undo()
        self.same((twin.runs, follower.runs), (((339, 341), (1239, 1241)), ((0, 1699),)))


class Asking(Case):
    def test_in(self):
        follower = Follower.begun(TWO, 40, ((1, 3), (7, 7)))
        self.same([x for x in range(-5, 50) if x in follower], [1, 2, 3, 7])
        for value in ANY:
            self.same(value in follower, is_int(value) and value in (1, 2, 3, 7))
        self.same((True in follower, 1.0 in follower, MOST in follower), (False, False, False))

    def test_iteration_goes_by_the_runs_as_they_are_then(self):
        follower = Follower(TWO, 1700)
        follower.hear((40, 70))
        rows = []
        for run in follower:
            rows.append(run)
            follower.reach = 500
        self.same((rows, list(follower)), ([(339, 341), (1239, 1241)], [(339, 341)]))

    def test_wrong_arguments_change_nothing(self):
        follower = Follower(TWO, 1700)
        follower.hear((40, 70))
        before = state(follower)
        for value in others(lambda value: is_int(value) and value >= 0) + [-1]:
            self.raises(BadNumber(value), follower.is_within, value)
        for value in others(is_int):
            self.raises(BadNumber(value), follower.move, value, None)
            self.raises(BadNumber(value), follower.move, value, 5)
            self.raises(BadNumber(value), follower.move, 5, value)
        for back, ahead in ((0, -1), (5, -6), (-5, 4), (-1, 0), (10 ** 119, -10 ** 119 - 1)):
            self.raises(BadNumber(ahead), follower.move, back, ahead)
        for work in (follower.hear, follower):
            for marks, at in ((None, None), ((40,), None), ((40, 70, 0), None), ("ab", None), ((40, 90), 1),
                              ((-1, 90), 0), ((True, 70), 0), ((40, None), "lost"), ((None, 90), 1)):
                self.raises(BadMark(at), work, marks)
            for value in ANY:
                if not (isinstance(value, (list, tuple)) and len(value) == 2):
                    self.raises(BadMark(None), work, value)
            self.raises(Unfit(), work, (40, 75))
            self.raises(Unfit(), work, [0, 0])
        self.same(state(follower) == before, True)


if __name__ == "__main__":
    unittest.main()
