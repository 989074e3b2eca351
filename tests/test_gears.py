"""gears.py: trains of shafts against fractions that are reckoned apart, their texts, and the meters that read them."""

import math
import unittest
from fractions import Fraction

from helpers import ANY, Case, dice, is_int, others
from wheelreach.errors import BadGear, BadMeter, BadNumber, BadText, BadValue, BadWheel, NoPlace, TooMany
from wheelreach.gears import Train, meter_of, reach_in
from wheelreach.meters import Meter
from wheelreach.reaches import reach_of
from wheelreach.wheels import Exact, Grid, Wheel

MILLION = 10 ** 6
ZERO = (0, 1)
TEN = Train(10, (0, 4, 3, (0, 1)), slip=(1, 4))
LONGER = TEN + (1, 1, 10, (1, 2))


def pair_of(fraction):
    return (fraction.numerator, fraction.denominator)


def is_fraction(value):
    return (isinstance(value, tuple) and len(value) == 2 and all(is_int(part) for part in value)
            and 0 <= value[0] <= MILLION and 1 <= value[1] <= MILLION)


NO_FRACTIONS = others(is_fraction) + [
    (-1, 1), (0, 0), (1, 0), (1, -1), (MILLION + 1, 1), (1, MILLION + 1), (1, 2, 3), (1,), [1, 2], (True, 2), (1, True),
    (1.0, 2), (Fraction(1), 2), ("1", 2), Fraction(1, 2)]


def random_fraction(rng, top=6, bottom=6):
    return (rng.randint(0, top), rng.randint(1, bottom))


def random_gears(rng, many, most=6):
    return [(rng.randint(0, at), rng.randint(1, most), rng.randint(1, most), random_fraction(rng, 2, 4))
            for at in range(many)]


def by_hand(period, gears, slip):
    """The periods and the slips of all shafts as Fractions."""
    periods, slips = [Fraction(period)], [Fraction(*slip)]
    for on, driving, driven, part in gears:
        periods.append(periods[on] * driven / driving)
        slips.append(Fraction(*part))
    return periods, slips


class Examples(Case):
    def test_examples(self):
        self.same([TEN.periods, TEN.slips, TEN.unit, TEN.stands(22), TEN.again, len(TEN), list(TEN) == [TEN[0], TEN[1]]],
                  [((10, 1), (15, 2)), ((1, 4), (0, 1)), 4, ((2, 1), (7, 1)), 30, 2, True])
        self.same([str(meter_of(TEN, lost=1)), reach_in(TEN, 0), reach_in(TEN, 0, lost=1)],
                  ['wheel 40 1 1 , wheel 30 0 0 , grid 4 ; off 0 more 0 lost 1', 30, 10])
        self.same([LONGER[2], LONGER.again, reach_in(LONGER, 0), str(LONGER), Train.read(str(LONGER)) == LONGER],
                  [(75, 1), 150, 150, 'train 10 1 4 ; 0 4 3 0 1 ; 1 1 10 1 2', True])
        self.raises(BadGear(0), Train, 10, (1, 4, 3, (0, 1)))
        self.raises(BadGear(0), meter_of, Train(1))

    def test_names_of_arguments(self):
        self.same(str(Train(period=10, slip=(1, 4))), "train 10 1 4")
        self.same(meter_of(train=TEN, off=3, more=2, lost=1) == meter_of(TEN, 3, 2, 1), True)
        self.same(reach_in(train=TEN, window=0, off=0, more=0, lost=1), reach_in(TEN, 0, 0, 0, 1))
        self.same(TEN.stands(value=22), TEN.stands(22))


class Shafts(Case):
    def setUp(self):
        rng = dice(221)
        self.rows = []
        for _ in range(300):
            gears = random_gears(rng, rng.randint(0, 6), rng.choice([3, 6, 40, 1000]))
            self.rows.append((rng.choice([1, 2, 10, 360, MILLION, rng.randint(1, 999)]), gears,
                              random_fraction(rng, 9, 12)))

    def test_against_fractions(self):
        on_others = 0
        for period, gears, slip in self.rows:
            train = Train(period, *gears, slip=slip)
            periods, slips = by_hand(period, gears, slip)
            self.same(train.periods, tuple(pair_of(part) for part in periods))
            self.same(train.slips, tuple(pair_of(part) for part in slips))
            self.same(train.unit, math.lcm(*[part.denominator for part in periods + slips]))
            self.same(train.again, math.lcm(*[part.numerator for part in periods]))
            self.same((len(train), list(train)), (len(gears) + 1, list(train.periods)))
            for at in range(len(gears) + 1):
                self.same(train[at], pair_of(periods[at]))
            on_others += any(gear[0] not in (0, at) for at, gear in enumerate(gears))
        self.assertGreater(on_others, 50)

    def test_each_shaft_ahead(self):
        gears = [(0, 2, 3, ZERO)]
        for many in range(2, 7):
            for on in range(many):
                train = Train(10, *gears, (on, 5, 7, (1, 3)))
                periods, _ = by_hand(10, [*gears, (on, 5, 7, (1, 3))], ZERO)
                self.same(train.periods[-1], pair_of(periods[-1]))
            self.raises(BadGear(many - 1), Train, 10, *gears, (many, 5, 7, ZERO))
            self.raises(BadGear(many - 1), Train, 10, *gears, (-1, 5, 7, ZERO))
            gears.append((many - 1, many, many + 1, ZERO))

    def test_again_by_hand(self):
        rng = dice(222)
        for _ in range(150):
            train = Train(rng.randint(1, 12), *random_gears(rng, rng.randint(0, 2), 4))
            periods = [Fraction(*part) for part in train.periods]
            value = 1
            while any((value / part).denominator != 1 for part in periods):
                value += 1
            self.same(train.again, value)

    def test_unit_by_hand(self):
        rng = dice(223)
        for _ in range(150):
            train = Train(rng.randint(1, 12), *random_gears(rng, rng.randint(0, 2), 4), slip=random_fraction(rng, 5, 8))
            parts = [Fraction(*part) for part in train.periods + train.slips]
            unit = 1
            while any((unit * part).denominator != 1 for part in parts):
                unit += 1
            self.same(train.unit, unit)

    def test_stands(self):
        rng = dice(224)
        for period, gears, slip in self.rows:
            train = Train(period, *gears, slip=slip)
            periods, _ = by_hand(period, gears, slip)
            for value in (0, 1, -1, rng.randint(-10 ** 4, 10 ** 4), 10 ** 120 - 1, 1 - 10 ** 120, train.again):
                self.same(train.stands(value), tuple(pair_of(value % part) for part in periods))
            self.same(train.stands(train.again), ((0, 1),) * len(train))
        for value in others(is_int) + [1.0]:
            self.raises(BadValue(value), TEN.stands, value)

    def test_items(self):
        for train in (TEN, LONGER, Train(3)):
            for value in [*ANY, -1, len(train), 10 ** 119, 0.0]:
                if is_int(value) and 0 <= value < len(train):
                    self.same(train[value], train.periods[value])
                else:
                    self.raises(NoPlace(value), lambda: train[value])
        self.assertEqual(list(iter(LONGER)), list(LONGER.periods))

    def test_greatest(self):
        gears = [(at, 1, 1000, (MILLION, 1)) for at in range(6)]
        train = Train(MILLION, *gears, slip=(MILLION, 1))
        self.same(train.periods[-1], (10 ** 24, 1))
        self.same((train.unit, train.again, train.stands(10 ** 24 + 5)[-1]), (1, 10 ** 24, (5, 1)))
        gears = [(at, 1000, 999, (MILLION - at, MILLION - 1)) for at in range(6)]
        train = Train(MILLION - 1, *gears, slip=(1, MILLION))
        periods, slips = by_hand(MILLION - 1, gears, (1, MILLION))
        self.same((train.periods, train.slips), (tuple(map(pair_of, periods)), tuple(map(pair_of, slips))))

    def test_later_changes(self):
        gears = [(0, 4, 3, ZERO)]
        train = Train(10, *gears)
        gears.append((0, 1, 1, ZERO))
        self.same((len(train), str(train)), (2, "train 10 0 1 ; 0 4 3 0 1"))


class Adding(Case):
    def test_like_a_train_made_at_once(self):
        rng = dice(225)
        for _ in range(200):
            period, slip = rng.randint(1, 99), random_fraction(rng, 9, 9)
            gears = random_gears(rng, rng.randint(1, 6), 9)
            train = Train(period, slip=slip)
            for at, gear in enumerate(gears):
                ahead = train
                train = train + gear
                whole = Train(period, *gears[:at + 1], slip=slip)
                self.same((train == whole, str(train) == str(whole), train.unit), (True, True, whole.unit))
                self.same((len(ahead), ahead == train), (at + 1, False))
        train = TEN
        train += (1, 1, 10, (1, 2))
        self.same((train == LONGER, len(TEN)), (True, 2))

    def test_errors(self):
        six = Train(10, *[(0, 1, 2, ZERO)] * 6)
        for gear in (*ANY, (0, 1, 1, ZERO), (9, 1, 1, ZERO)):
            self.raises(TooMany("gears", 6), lambda: six + gear)
            if gear != (0, 1, 1, ZERO):
                self.raises(BadGear(1), lambda: TEN + gear)
                self.raises(BadGear(2), lambda: LONGER + gear)
                self.raises(BadGear(0), lambda: Train(1) + gear)

    def test_equal(self):
        self.same([TEN == Train(10, (0, 4, 3, ZERO), slip=(1, 4)), TEN == Train(10, (0, 8, 6, (0, 7)), slip=(2, 8)),
                   TEN != Train(10, (0, 8, 6, (0, 7)), slip=(2, 8))], [True, True, False])
        # the same period by another shaft
        one, other = Train(10, (0, 1, 2, ZERO), (1, 2, 1, ZERO)), Train(10, (0, 1, 2, ZERO), (0, 1, 1, ZERO))
        self.same((one == other, str(one) == str(other)), (True, False))
        for other in (Train(11, (0, 4, 3, ZERO), slip=(1, 4)), Train(10, (0, 4, 5, ZERO), slip=(1, 4)),
                      Train(10, (0, 4, 3, (1, 9)), slip=(1, 4)), Train(10, (0, 4, 3, ZERO), slip=(1, 5)), LONGER,
                      Train(10, slip=(1, 4))):
            self.same((TEN == other, other == TEN, TEN != other), (False, False, True))
        two = Train(10, (0, 1, 2, ZERO), (0, 1, 3, ZERO)), Train(10, (0, 1, 3, ZERO), (0, 1, 2, ZERO))
        self.same(two[0] == two[1], False)
        for value in [*ANY, TEN.periods, str(TEN)]:
            self.same((TEN == value, value == TEN), (False, False))


class Wrong(Case):
    def test_period(self):
        for value in others(lambda value: is_int(value) and 1 <= value <= MILLION) + [0, -1, MILLION + 1, 5.0]:
            self.raises(BadGear("period"), Train, value)
            self.raises(BadGear("period"), Train, value, None, slip=None)
            self.raises(BadGear("period"), Train, value, *[None] * 7, slip=ZERO)
        self.same([Train(1).periods, Train(MILLION).periods], [((1, 1),), ((MILLION, 1),)])

    def test_slip(self):
        for value in NO_FRACTIONS:
            self.raises(BadGear("slip"), Train, 10, slip=value)
            self.raises(BadGear("slip"), Train, 10, None, slip=value)
            self.raises(BadGear("slip"), Train, 10, *[None] * 7, slip=value)
        for value in ((0, 1), (0, MILLION), (MILLION, 1), (1, MILLION), (MILLION, MILLION)):
            self.same(Train(10, slip=value).slips, (pair_of(Fraction(*value)),))

    def test_gears(self):
        good = (0, 1, 1, ZERO)
        for many in (7, 8, 20):
            self.raises(TooMany("gears", 6), Train, 10, *[good] * many)
            self.raises(TooMany("gears", 6), Train, 10, *[None] * many)
        self.same(len(Train(10, *[good] * 6)), 7)
        bad = [*ANY, (0, 1, 1), (0, 1, 1, ZERO, 0), [0, 1, 1, ZERO], (True, 1, 1, ZERO), (False, 1, 1, ZERO)]
        for value in others(lambda value: is_int(value) and 1 <= value <= 1000) + [0, 1001, -1, 2.0]:
            bad += [(0, value, 1, ZERO), (0, 1, value, ZERO)]
        for value in others(lambda value: is_int(value) and value == 0) + [0.0, "0"]:
            if value != 1 or isinstance(value, bool):
                bad.append((value, 1, 1, ZERO))
        bad += [(0, 1, 1, value) for value in NO_FRACTIONS]
        for gear in bad:
            self.raises(BadGear(0), Train, 10, gear)
            if not (isinstance(gear, tuple) and len(gear) == 4 and is_int(gear[0]) and 0 <= gear[0] <= 2):
                self.raises(BadGear(2), Train, 10, good, good, gear, None, gear)
        self.raises(BadGear(1), Train, 10, good, (2, 1, 1, ZERO), (0, 0, 0, ZERO))
        self.same(len(Train(10, (0, 1000, 1000, (MILLION, MILLION)), (1, 1, 1, (0, 1)))), 3)


class Texts(Case):
    def test_back_and_forth(self):
        rng = dice(226)
        for _ in range(200):
            train = Train(rng.choice([1, 7, MILLION]), *random_gears(rng, rng.randint(0, 6), rng.choice([3, 1000])),
                          slip=random_fraction(rng, 9, MILLION))
            again = Train.read(str(train))
            self.same((type(again), again == train, str(again)), (Train, True, str(train)))
        self.same(str(Train(7, (0, 8, 6, (4, 8)), slip=(0, 9))), "train 7 0 1 ; 0 8 6 1 2")

    def test_words(self):
        text = "train 10 1 4 ; 0 4 3 0 1 ; 1 1 10 1 2"
        words = text.split(" ")
        for at in range(len(words)):
            self.raises(BadText(0, at), Train.read, " ".join([*words[:at], "x", *words[at + 1:]]))
            self.raises(BadText(0, at), Train.read, " ".join([*words[:at], "", *words[at:]]))
            self.raises(BadText(0, at), Train.read, " ".join([*words[:at], "-1", *words[at + 1:]]))
            self.raises(BadText(0, at), Train.read, " ".join([*words[:at], "01", *words[at + 1:]]))
            self.raises(BadText(0, at), Train.read, " ".join([*words[:at], "train" if at else "Train", *words[at + 1:]]))
            if at in (4, 10):
                self.same(str(Train.read(" ".join(words[:at]))), " ".join(words[:at]))
            else:
                self.raises(BadText(0, at), Train.read, " ".join(words[:at]))
        for more in ("x", "1", "", ";;", "train"):
            self.raises(BadText(0, len(words)), Train.read, f"{text} {more}")
        self.raises(BadText(0, len(words) + 1), Train.read, f"{text} ;")
        self.raises(BadText(0, 0), Train.read, "")
        for text in ("train 10 1 4\n", "train\n10 1 4", "train  10 1 4", " train 10 1 4", "train 10 1 4 "):
            with self.assertRaises(BadText):
                Train.read(text)
        for value in others(lambda value: isinstance(value, str)):
            self.raises(BadText(0, 0), Train.read, value)
        for value in [value for value in ANY if isinstance(value, str)]:
            self.raises(BadText(0, 0), Train.read, value)

    def spoil(self, words, at, good, bad):
        for word in good:
            Train.read(" ".join([*words[:at], word, *words[at + 1:]]))
        for word in bad:
            self.raises(BadText(0, at), Train.read, " ".join([*words[:at], word, *words[at + 1:]]))

    def test_bounds(self):
        words = "train 10 1 7 ; 0 4 3 1 7 ; 1 1 10 1 7".split(" ")
        self.spoil(words, 1, ("1", "1000000"), ("0", "1000001", "+1", "1.0", "1" * 121))
        for at in (2, 8, 14):
            self.spoil(words, at, ("1", "1000000", "15"), ("1000001", "-1"))
            # 0 and 14 are let, but not with the bottom 7
            for word in ("0", "14", "999999"):
                self.raises(BadText(0, at + 1), Train.read, " ".join([*words[:at], word, *words[at + 1:]]))
        for at in (3, 9, 15):
            self.spoil(words, at, ("1", "1000000"), ("0", "1000001"))
        self.spoil(words, 5, ("0",), ("1", "2"))
        self.spoil(words, 11, ("0", "1"), ("2", "3"))
        for at in (6, 7, 12, 13):
            self.spoil(words, at, ("1", "1000"), ("0", "1001"))
        self.spoil("train 1 0 1".split(" "), 3, ("1",), ("2", "0"))
        self.spoil("train 1 6 1".split(" "), 3, ("1", "5", "35"), ("2", "3", "4", "9", "600"))

    def test_a_seventh_gear(self):
        words = ["train 5 0 1"] + ["; 0 1 2 0 1"] * 6
        self.same(len(Train.read(" ".join(words))), 7)
        for more in ("; 0 1 2 0 1", ";", "; x", "x"):
            self.raises(BadText(0, 4 + 36), Train.read, " ".join(words + [more]))
        last = ["train 5 0 1"] + [f"; {at} 1 2 0 1" for at in range(6)]
        self.same(Train.read(" ".join(last)).periods[-1], (320, 1))
        for at in range(6):
            row = [*last[:at + 1], f"; {at + 1} 1 2 0 1", *last[at + 2:]]
            self.raises(BadText(0, 4 + 6 * at + 1), Train.read, " ".join(row))


class Meters(Case):
    def test_wheel_by_wheel(self):
        rng = dice(227)
        with_grid = 0
        for _ in range(400):
            period, slip = rng.randint(2, 60), random_fraction(rng, 5, 5)
            gears = random_gears(rng, rng.randint(0, 6), 5)
            train = Train(period, *gears, slip=slip)
            periods, slips = by_hand(period, gears, slip)
            wanted = [Wheel(int(one * train.unit), int(two * train.unit), int(two * train.unit))
                      for one, two in zip(periods, slips) if one * train.unit >= 2]
            if len(wanted) < len(periods):
                continue
            if train.unit > 1:
                wanted.append(Grid(train.unit))
                with_grid += 1
            numbers = [rng.randint(0, 8) for _ in range(3)]
            meter = meter_of(train, *numbers)
            self.same(meter == Meter(*wanted, off=numbers[0], more=numbers[1], lost=numbers[2]), True)
            self.same([wheel.trusted for wheel in meter], [False] * len(periods) + [True] * (train.unit > 1))
            self.same(meter_of(train) == Meter(*wanted), True)
        self.assertGreater(with_grid, 100)
        self.assertLess(with_grid, 380)
        self.same(str(meter_of(Train(7, *[(0, 1, 1, ZERO)] * 6))), " , ".join(["wheel 7 0 0"] * 7)
                  + " ; off 0 more 0 lost 0")

    def bad_shaft(self, at, part, train):
        for numbers in ((), (0, 0, 9), (None,)):
            try:
                meter_of(train, *numbers)
            except BadGear as error:
                self.same((error.at, type(error.__cause__), error.__cause__.part), (at, BadWheel, part))
            else:
                self.fail("no error")
            self.raises(BadGear(at), reach_in, train, None, *numbers)

    def test_shafts_without_a_wheel(self):
        self.bad_shaft(0, "period", Train(1))
        self.bad_shaft(1, "period", Train(4, (0, 4, 1, ZERO)))
        self.bad_shaft(2, "period", Train(4, (0, 2, 1, ZERO), (0, 4, 1, ZERO), (0, 4, 1, ZERO)))
        self.same(str(meter_of(Train(1, slip=(1, 2)))), "wheel 2 1 1 , grid 2 ; off 0 more 0 lost 0")
        # just 10 ** 12, and beyond it
        train = Train(MILLION, (0, 1, 1000, ZERO), (1, 1, 1000, ZERO))
        self.same(meter_of(train).wheels[2] == Exact(10 ** 12), True)
        self.bad_shaft(3, "period", train + (2, 1, 2, ZERO))
        self.bad_shaft(2, "period", train + (2, 2, 1, (1, 2)))
        self.bad_shaft(0, "period", Train(MILLION, slip=(1, MILLION)) + (0, 1, 1, (1, MILLION - 1)))
        self.same(str(meter_of(Train(MILLION, slip=(1, MILLION))).wheels[0]), f"wheel {10 ** 12} 1 1")
        # a slip of more than 10 ** 12 finer units
        self.same(str(meter_of(Train(2, (0, 1, 1, (1, MILLION)), slip=(MILLION, 1))).wheels[0]),
                  f"wheel {2 * MILLION} {10 ** 12} {10 ** 12}")
        self.bad_shaft(0, "back", Train(1, (0, 1, 1, (1, MILLION - 1)), (0, 1, 1, (1, 17)), slip=(MILLION, 1)))
        self.bad_shaft(1, "back", Train(1, (0, 1, 2, (MILLION, 1)), (0, 1, 2, (1, MILLION - 1)), (0, 1, 3, (1, 17))))

    def test_errors(self):
        for value in [*ANY, Meter(Exact(5)), "train 10 0 1"]:
            self.raises(BadGear("train"), meter_of, value)
            self.raises(BadGear("train"), meter_of, value, None, None, None)
            self.raises(BadGear("train"), reach_in, value, None, None, None, None)
        for value in others(lambda value: is_int(value) and 0 <= value <= 8) + [-1, 9]:
            self.raises(BadMeter("off"), meter_of, TEN, value, None, None)
            self.raises(BadMeter("more"), meter_of, TEN, 8, value, None)
            self.raises(BadMeter("lost"), meter_of, TEN, 8, 8, value)
            self.raises(BadMeter("off"), reach_in, TEN, None, value, None, None)
            self.raises(BadMeter("more"), reach_in, TEN, None, 8, value, None)
            self.raises(BadMeter("lost"), reach_in, TEN, None, 0, 0, value)


class Reaches(Case):
    def test_all_differences(self):
        rng = dice(228)
        seen = 0
        for _ in range(250):
            train = Train(rng.randint(2, 9), *random_gears(rng, rng.randint(0, 3), 4), slip=random_fraction(rng, 2, 4))
            if any(Fraction(*part) * train.unit < 2 for part in train.periods):
                continue
            numbers = [rng.choice([0, 0, 0, 1]) for _ in range(3)]
            meter = meter_of(train, *numbers)
            for window in (0, 1, 2, 5):
                d = window + 1
                while d < 3000 and not meter.is_blind(d * train.unit):
                    d += 1
                if d < 3000:
                    self.same(reach_in(train, window, *numbers), d)
                    seen += 1
        self.assertGreater(seen, 400)

    def test_by_fractions(self):
        # without numbers: how far each whole difference is from the multiples of each period, in fractions of a unit
        rng = dice(229)
        for _ in range(120):
            period, gears = rng.randint(2, 9), random_gears(rng, rng.randint(0, 3), 4)
            slip = random_fraction(rng, 1, 4)
            train = Train(period, *gears, slip=slip)
            periods, slips = by_hand(period, gears, slip)
            if any(part * train.unit < 2 for part in periods):
                continue
            d = 1
            while any(min(d % part, -d % part) > 2 * play for part, play in zip(periods, slips)):
                d += 1
            self.same(reach_in(train, 0), d)

    def test_each_number(self):
        train = Train(10, (0, 2, 1, ZERO), (0, 10, 7, ZERO), (0, 10, 9, ZERO))
        wheels = meter_of(train)
        for numbers in ((0, 0, 0), (1, 0, 0), (0, 1, 0), (0, 0, 1), (0, 1, 1), (2, 0, 0), (8, 8, 8)):
            self.same(reach_in(train, 3, *numbers), reach_of(wheels.with_numbers(*numbers), 3))
            self.same(reach_in(LONGER, 3, *numbers), reach_of(meter_of(LONGER, *numbers), 12) // 4)
        self.same([reach_in(LONGER, 0, lost=1), reach_in(LONGER, 0, more=1), reach_in(LONGER, 0, off=1),
                   reach_in(LONGER, 0, off=2)], [30, 30, 1, 1])

    def test_windows(self):
        most = 10 ** 80
        for value in others(lambda value: is_int(value) and 0 <= value <= most) + [-1, most + 1]:
            self.raises(BadNumber(value), reach_in, TEN, value)
        self.same(reach_in(TEN, most), most // 30 * 30 + 30)
        self.same(reach_in(Train(7), most), most // 7 * 7 + 7)

    def test_heavy(self):
        heavy = Train(10, (0, 997, 991, (1, 1)), (0, 997, 983, (1, 1)), slip=(1, 1))
        for window in (0, 7, 10 ** 80):
            self.raises(TooMany("runs", 2000), reach_in, heavy, window)
            self.raises(TooMany("runs", 2000), reach_in, heavy, window, 0, 0, 0)
        self.raises(BadNumber(None), reach_in, heavy, None)
        self.raises(BadMeter("lost"), reach_in, heavy, None, 0, 0, 9)
        self.same(len(meter_of(heavy)), 4)
        # the wheel of a shaft alone, with the play 1994, meets the grid of 997 in as many runs as it has members near 0
        self.raises(TooMany("runs", 2000), reach_in, heavy, 0, lost=2)
        self.same(reach_in(heavy, 0, lost=3), 1)


if __name__ == "__main__":
    unittest.main()
