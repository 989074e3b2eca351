"""follower.py: trials, and deeds as texts."""

import unittest

from helpers import ANY, Case, alike, dice
from meter_helpers import random_meter
from reading_helpers import random_reading
from wheelreach.errors import (
    BadDeed, BadFollower, BadMark, BadNumber, BadText, Nothing, ReachError, TooMany, Unfit)
from wheelreach.follower import Follower
from wheelreach.meters import Meter
from wheelreach.wheels import Even, Exact, Grid, Wheel

MOST = 10 ** 100
TWO = Meter(Even(100, 1), Even(90, 1))
THREE = Meter(Exact(5), Grid(4), Even(9, 1), off=1, lost=1)


def state(follower):
    return (str(follower.meter), follower.reach, follower.runs, follower.deeds)


def heard():
    follower = Follower(TWO, 1700)
    follower.hear((40, 70))
    return follower


class Stop(Exception):
    pass


class Trials(Case):
    def changes(self, follower):
        follower.undo()
        follower.move(3, 4)
        follower.meter = THREE
        follower.reach = 1000
        follower.hear((1, 2, None))

    def test_not_kept(self):
        follower = heard()
        before = state(follower)
        with follower.trial() as trial:
            self.assertTrue(hasattr(trial, "keep"))
            self.changes(follower)
            self.same(len(follower.deeds), 4)
        self.same(state(follower), before)
        self.same((follower.undo(), follower.runs), ("hear 40 70", ((0, 1699),)))
        with follower.trial():
            follower.move(0, 0)
        self.same(follower.deeds, ())

    def test_kept(self):
        follower = heard()
        with follower.trial() as trial:
            self.same(trial.keep(), None)
            self.changes(follower)
            behind = state(follower)
        self.same(state(follower), behind)
        self.same([follower.undo() for _ in range(4)],
                  ["hear 1 2 -", "reach 1000", f"meter {THREE}", "move 3 4"])
        self.same((follower.runs, follower.meter == TWO, follower.reach), (((0, 1699),), True, 1700))

    def test_left_by_an_error(self):
        for kept in (False, True):
            for error in (Stop(), Unfit(), BadNumber(5), KeyboardInterrupt(), ValueError("x")):
                follower = heard()
                before = state(follower)
                with self.assertRaises(type(error)) as caught:
                    with follower.trial() as trial:
                        self.changes(follower)
                        if kept:
                            trial.keep()
                        raise error
                self.assertIs(caught.exception, error)
                self.same(state(follower), before)
        follower = heard()
        with self.assertRaises(Unfit):
            with follower.trial() as trial:
                trial.keep()
                follower.move(0, 5)
                follower.hear((40, 75))
        self.same(follower.deeds, ("hear 40 70",))

    def test_an_error_that_is_caught_within(self):
        follower = heard()
        with follower.trial() as trial:
            self.raises(Unfit(), follower.hear, (40, 75))
            follower.move(0, 5)
            trial.keep()
        self.same(follower.deeds, ("hear 40 70", "move 0 5"))

    def test_one_within_another(self):
        for outer_kept in (False, True):
            for inner_kept in (False, True):
                follower = heard()
                with follower.trial() as outer:
                    follower.move(1, 1)
                    with follower.trial() as inner:
                        follower.move(2, 2)
                        if inner_kept:
                            inner.keep()
                    follower.move(3, 3)
                    if outer_kept:
                        outer.keep()
                wanted = ("hear 40 70", "move 1 1", *(["move 2 2"] if inner_kept else []), "move 3 3")
                self.same(follower.deeds, wanted if outer_kept else ("hear 40 70",))
        follower = heard()
        with follower.trial() as outer:
            follower.move(1, 1)
            with self.assertRaises(Stop):
                with follower.trial() as inner:
                    inner.keep()
                    follower.move(2, 2)
                    raise Stop
            outer.keep()
        self.same(follower.deeds, ("hear 40 70", "move 1 1"))

    def test_the_moment_when_the_block_began(self):
        follower = heard()
        trial = follower.trial()
        follower.move(0, 5)
        before = state(follower)
        with trial:
            follower.undo()
            follower.undo()
        self.same(state(follower), before)
        other = follower.twin()
        with follower.trial():
            other.move(1, 1)
        self.same(other.deeds, ("move 1 1",))

    def test_tried(self):
        follower = heard()
        before = state(follower)
        seen = []

        def work(same):
            seen.append(same is follower)
            same.move(0, 5)
            return ("told", len(same.deeds))
        self.same((follower.tried(work), state(follower) == before), (("told", 2), True))
        for kept in (False, 0, None, 1, "yes"):
            self.same((follower.tried(work, kept), follower.deeds), (("told", 2), ("hear 40 70",)))
        self.same((follower.tried(work, True), follower.deeds), (("told", 2), ("hear 40 70", "move 0 5")))
        self.same((follower.tried(kept=True, work=work), len(follower.deeds)), (("told", 3), 3))
        self.same(set(seen), {True})
        self.same(follower.tried(lambda same: None), None)
        self.same(follower.tried(lambda same: same.tried(work, True)), ("told", 4))
        self.same(len(follower.deeds), 3)

        def fails(same):
            same.move(0, 5)
            raise Stop
        before = state(follower)
        for kept in (False, True):
            with self.assertRaises(Stop):
                follower.tried(fails, kept)
            self.same(state(follower), before)
        self.raises(Unfit(), follower.tried, lambda same: same.hear((40, 75)), True)


class Texts(Case):
    def test_texts_of_deeds(self):
        follower = Follower(THREE, 500)
        follower.hear([3, 1, None])
        follower.move(-2, 10)
        follower.move(2, -2)
        follower.reach = 900
        follower.meter = TWO
        self.same(follower.deeds, ("hear 3 1 -", "move -2 10", "move 2 -2", "reach 900",
                                   "meter wheel 100 1 1 , wheel 90 1 1 ; off 0 more 0 lost 0"))

    def test_replay_of_right_texts(self):
        rng = dice(251)
        for _ in range(60):
            meter = random_meter(rng, 3, 9, (0, 0, 1))
            reach = rng.randint(1, 60)
            follower = Follower(meter, reach)
            for _ in range(8):
                deed = rng.randint(0, 3)
                try:
                    if deed == 0:
                        follower.hear(random_reading(rng, follower.meter))
                    elif deed == 1:
                        follower.move(rng.randint(-3, 5), rng.randint(3, 9))
                    elif deed == 2:
                        follower.reach = rng.randint(20, 70)
                    else:
                        follower.meter = random_meter(rng, 3, 9, (0, 0, 1))
                except Unfit:
                    continue
            other = Follower(meter, reach)
            self.same(other.replay(*follower.deeds), None)
            self.same(state(other), state(follower))
            self.same(other == follower, True)
            # each line is a deed of its own
            while other.deeds:
                self.same(other.undo(), follower.undo())
                self.same(state(other), state(follower))
        self.same(heard().replay(), None)
        far = Follower(TWO, MOST)
        far.replay("move -5 " + "9" * 120, "move 7 -7", f"reach {MOST}")
        self.same(len(far.deeds), 3)

    def test_in_a_trial(self):
        follower = heard()
        before = state(follower)
        self.same(follower.tried(lambda same: (same.replay("move 1 1", "reach 500"), same.deeds)),
                  (None, ("hear 40 70", "move 1 1", "reach 500")))
        self.same(state(follower), before)

    def spoiled(self, line, word, *ahead, meter=THREE):
        """The line cannot be done since its word of this index cannot stand."""
        self.refused(BadText(0, word), line, *ahead, meter=meter)

    def refused(self, cause, line, *ahead, meter=THREE):
        follower = Follower(meter, 500)
        follower.move(0, 0)
        before = state(follower)
        with self.assertRaises(BadDeed) as caught:
            follower.replay(*ahead, line, "no deed", None)
        self.same(caught.exception.at, len(ahead))
        found = caught.exception.__cause__
        self.assertIsInstance(found, ReachError)
        self.assertIs(type(found), type(cause), (line, vars(found)))
        self.assertTrue(alike(sorted(vars(found).items()), sorted(vars(cause).items())), (line, vars(found)))
        self.same(state(follower), before)

    def test_spoiled_texts(self):
        for value in ANY:
            if not isinstance(value, str):
                self.spoiled(value, 0)
                self.spoiled(value, 0, "move 1 1", "reach 400")
        for line in ("", " ", "Hear 3 1 0", "hears 3 1 0", " hear 3 1 0", "undo", "hear\n3 1 0", "x" * 3000, "7", "-",
                     "move\t1 1", "grid 4"):
            self.spoiled(line, 0)
        for line, word in (("hear", 1), ("hear 3", 2), ("hear 3 1", 3), ("hear ", 1), ("hear 3 ", 2), ("hear 3  0", 2),
                           ("hear 3 1 0 ", 4), ("hear 3 1 0 0", 4), ("hear 3 1 0 -", 4), ("hear -1 1 0", 1),
                           ("hear 03 1 0", 1), ("hear +3 1 0", 1), ("hear 3 x 0", 2), ("hear 3 1 --", 3), ("hear 3,1,0", 1),
                           ("hear -0 1 0", 1), ("hear 3 1 7x", 3), ("hear 3 1 0\n", 3), ("hear x", 1),
                           ("hear 3 1 " + "9" * 121, 3), ("hear None 1 0", 1), ("hear \u0663 1 0", 1)):
            self.spoiled(line, word)
        for line, word in (("move", 1), ("move 1", 2), ("move 1 ", 2), ("move  1", 1), ("move 1 1 1", 3), ("move 1 1 ", 3),
                           ("move -0 1", 1), ("move 1 -0", 2), ("move +1 1", 1), ("move 01 1", 1), ("move -01 1", 1),
                           ("move - 1", 1), ("move 1 -", 2), ("move --1 1", 1), ("move 1 x", 2), ("move 1.0 1", 1),
                           ("move " + "9" * 121 + " 1", 1), ("move 1 -" + "9" * 121, 2), ("move x y", 1)):
            self.spoiled(line, word)
        for line, word in (("reach", 1), ("reach ", 1), ("reach x", 1), ("reach -1", 1), ("reach 05", 1),
                           ("reach 5 ", 2), ("reach 5 5", 2), ("reach " + "9" * 121, 1), ("reach 1_0", 1)):
            self.spoiled(line, word)
        text = str(TWO).split(" ")
        for at in range(len(text)):
            self.spoiled("meter " + " ".join(text[:at]) if at else "meter", at + 1)
            for other in ("x", "", "-1", "01", "1000000000001", "9" * 121):
                self.spoiled("meter " + " ".join(text[:at] + [other] + text[at + 1:]), at + 1)
        self.spoiled(f"meter {TWO} ", len(text) + 1)
        self.spoiled(f"meter {TWO} off", len(text) + 1)
        self.spoiled("meter " + " , ".join(["grid 5"] * 9) + " ; off 0 more 0 lost 0", 3 * 8)
        self.spoiled("meter grid 5 ; off 9 more 0 lost 0", 5)

    def test_as_many_marks_as_there_are_wheels_then(self):
        self.spoiled("hear 3 1 0", 3, f"meter {TWO}")
        self.spoiled("hear 3", 2, f"meter {TWO}")
        self.spoiled("hear 3 1", 3)
        follower = Follower(THREE, 500)
        follower.replay(f"meter {TWO}", "hear 40 70", f"meter {THREE}", "hear 0 0 7")
        self.same((follower.known, len(follower.deeds)), (340, 4))

    def test_what_the_deed_raises(self):
        for line, cause in (("hear 5 1 0", BadMark(0)), ("hear 3 - 0", BadMark(1)), ("hear 3 4 0", BadMark(1)),
                            ("hear - 1 -", BadMark("lost")), ("hear 3 1 " + "9" * 120, BadMark(2)),
                            ("move 1 -2", BadNumber(-2)), ("move -1 0", BadNumber(0)), ("move -500 500", Unfit()),
                            ("reach 0", BadFollower("reach")), (f"reach {MOST + 1}", BadFollower("reach"))):
            self.refused(cause, line)
            self.refused(cause, line, "move 1 1", "reach 400")
        self.refused(BadFollower("reach"), "reach 5", "move -9 400", "reach 450")
        self.refused(Unfit(), "move -10 10", "move -490 490")
        self.refused(Unfit(), "hear 40 75", "hear 40 70", meter=TWO)
        self.refused(TooMany("runs", 500), "hear 0", f"reach {MOST}", "move 0 9999", meter=Meter(Exact(7)))
        self.refused(TooMany("runs", 2000), "hear 0 0", meter=Meter(Wheel(10 ** 12, 2000, 0), Exact(10 ** 12 - 1)))

    def test_the_error_has_its_cause(self):
        follower = heard()
        with self.assertRaises(BadDeed) as caught:
            follower.replay("move 1 1", "hear 40 7x")
        self.same((caught.exception.at, follower.deeds), (1, ("hear 40 70",)))
        self.assertIs(type(caught.exception.__cause__), BadText)
        self.same((caught.exception.__cause__.line, caught.exception.__cause__.word), (0, 2))
        self.same(follower.undo(), "hear 40 70")
        self.raises(Nothing(), follower.undo)
        with self.assertRaises(BadDeed) as caught:
            follower.replay("move -9 9", "reach 9")
        self.same((caught.exception.at, follower.deeds), (1, ()))
        self.same((type(caught.exception.__cause__), type(caught.exception.__cause__.__cause__)), (BadFollower, Unfit))


if __name__ == "__main__":
    unittest.main()
