"""meters.py: how a meter is made, its wheels and choices, readings, and its text."""

import itertools
import unittest

from helpers import ANY, Case, dice, is_int, others
from wheelreach.errors import BadMark, BadMeter, BadNumber, BadText, BadValue, BadWheel, NoPlace, TooMany, Unlike
from wheelreach.meters import Meter, need_reading
from wheelreach.wheels import Even, Exact, Grid, Lagging, Wheel

MOST = 10 ** 12
FAR = 10 ** 119
EIGHT = [Exact(7), Even(9, 1), Grid(4), Wheel(10, 0, 3), Lagging(12, 2), Exact(11), Grid(2), Wheel(15, 2, 1)]


def numbers(meter):
    return (meter.off, meter.more, meter.lost)


def texts(meter):
    return tuple(str(wheel) for wheel in meter.wheels)


def parts(meter):
    return (texts(meter), numbers(meter))


def random_meter(rng, most=8):
    wheels = [rng.choice(EIGHT) for _ in range(rng.randint(1, most))]
    off, more, lost = (rng.choice([0, 0, 0, 1, 1, 2, 8]) for _ in range(3))
    return Meter(*wheels, off=off, more=more, lost=lost)


class Making(Case):
    def test_examples(self):
        four = Meter(Exact(7), Exact(9), Exact(11), Exact(13), off=1)
        self.same([len(four), four.spare, four(100), four.parting(63), four.is_blind(63), four.is_blind(62)],
                  [4, 2, (2, 1, 1, 9), (2, 3), True, False])
        self.same(str(four[:2]), "wheel 7 0 0 , wheel 9 0 0 ; off 1 more 0 lost 0")
        self.same(list(four.choices()), [(0, 1), (0, 2), (0, 3), (1, 2), (1, 3), (2, 3)])
        held = Meter(Exact(5), Grid(2), lost=1)
        self.same([str((four + Meter(Grid(2), off=1)).without(0, 1)), four.with_numbers(0, 1, 1).spare],
                  ["wheel 11 0 0 , wheel 13 0 0 , grid 2 ; off 1 more 0 lost 0", 2])
        self.same([list(held.choices()), held.is_blind(4), held.is_blind(3)], [[(1,)], True, False])
        self.raises(BadMeter("wheels"), Meter, Exact(7), 3)
        self.raises(NoPlace(4), four.__getitem__, 4)
        self.raises(BadMark(1), need_reading, held, (0, None))
        self.raises(BadMark("lost"), need_reading, four, [0, 0, 0, None])

    def test_attributes(self):
        for many in range(1, 9):
            wheels = EIGHT[:many]
            meter = Meter(*wheels, off=1, more=2, lost=3)
            self.assertIs(type(meter.wheels), tuple)
            self.assertEqual(list(meter.wheels), wheels)
            self.same((numbers(meter), meter.spare, len(meter), bool(meter)), ((1, 2, 3), 7, many, True))
        self.same(numbers(Meter(Exact(5))), (0, 0, 0))
        for off, more, lost in itertools.product((0, 1, 8), repeat=3):
            self.same(Meter(Exact(5), off=off, more=more, lost=lost).spare, 2 * off + more + lost)

    def test_wrong_wheels(self):
        self.raises(BadMeter("wheels"), Meter)
        self.raises(BadMeter("wheels"), Meter, off=9)
        for value in ANY:
            self.raises(BadMeter("wheels"), Meter, value)
            self.raises(BadMeter("wheels"), Meter, Exact(5), value, off=None)
            self.raises(BadMeter("wheels"), Meter, *EIGHT, value)
        self.raises(TooMany("wheels", 8), Meter, *EIGHT, Exact(5))
        self.raises(TooMany("wheels", 8), Meter, *EIGHT, *EIGHT, off=9)
        self.raises(BadMeter("wheels"), Meter, Meter(Exact(5)))

    def test_wrong_numbers(self):
        for value in others(lambda value: is_int(value) and 0 <= value <= 8) + [9, -1]:
            self.raises(BadMeter("off"), Meter, Exact(5), off=value)
            self.raises(BadMeter("more"), Meter, Exact(5), more=value)
            self.raises(BadMeter("lost"), Meter, Exact(5), lost=value)
            self.raises(BadMeter("off"), Meter, Exact(5), off=value, more=value, lost=value)
            self.raises(BadMeter("more"), Meter, Exact(5), more=value, lost=None)
            meter = Meter(Exact(5))
            self.raises(BadMeter("off"), meter.with_numbers, value, value, value)
            self.raises(BadMeter("more"), meter.with_numbers, 8, value, value)
            self.raises(BadMeter("lost"), meter.with_numbers, 8, 0, value)

    def test_truth_and_walks(self):
        meter = Meter(*EIGHT[:3])
        self.assertEqual([(one, other) for one in meter for other in meter],
                         [(one, other) for one in EIGHT[:3] for other in EIGHT[:3]])


class Parts(Case):
    def test_items(self):
        meter = Meter(*EIGHT, off=1, lost=2)
        for at in range(8):
            self.assertIs(meter[at], EIGHT[at])
        for at in (-1, 8, -8, 9, FAR, -FAR):
            self.raises(NoPlace(at), meter.__getitem__, at)
        self.raises(NoPlace(1), Meter(Exact(5)).__getitem__, 1)

    def test_slices(self):
        meter = Meter(*EIGHT, off=1, more=3, lost=2)
        places = [None, 0, 1, 3, 7, 8, 20, -1, -3, -20, FAR]
        for begin, end, step in itertools.product(places, places, (None, 1, 2, 3, -1, -2, FAR, -FAR)):
            wanted = EIGHT[begin:end:step]
            if wanted:
                found = meter[begin:end:step]
                self.assertEqual((list(found.wheels), numbers(found)), (wanted, (1, 3, 2)))
            else:
                self.raises(BadMeter("wheels"), lambda: meter[begin:end:step])

    def test_call(self):
        meter = Meter(*EIGHT)
        for value in [*range(-30, 31), FAR, -FAR]:
            self.same(meter(value), tuple(value % wheel.period for wheel in EIGHT))
        self.same(meter(value=100), meter(100))
        for value in others(is_int):
            self.raises(BadValue(value), meter, value)

    def test_sums(self):
        one, other = Meter(*EIGHT[:3], off=1, more=2, lost=3), Meter(*EIGHT[3:], off=1, more=2, lost=3)
        self.same(parts(one + other), (tuple(map(str, EIGHT)), (1, 2, 3)))
        self.same(parts(other + one), (tuple(map(str, EIGHT[3:] + EIGHT[:3])), (1, 2, 3)))
        bound = one
        bound += other
        self.same((parts(bound), len(one)), (parts(one + other), 3))
        self.raises(TooMany("wheels", 8), lambda: (one + other) + one)
        for changed in ((0, 2, 3), (1, 1, 3), (1, 2, 4), (2, 1, 3), (3, 2, 1)):
            self.raises(Unlike("numbers"), lambda: one + other.with_numbers(*changed))
            self.raises(Unlike("numbers"), lambda: (one + other) + one.with_numbers(*changed))
        for value in [*ANY, Exact(5)]:
            self.raises(BadMeter("other"), lambda: one + value)
            self.raises(BadMeter("other"), lambda: (one + other) + value)

    def test_times_and_wider(self):
        rng = dice(51)
        for _ in range(60):
            meter = random_meter(rng)
            before = parts(meter)
            for n in (1, 2, 9, 10 ** 8):
                self.same(parts(meter * n), (tuple(str(wheel * n) for wheel in meter), numbers(meter)))
            for k in (0, 1, 9, MOST - 10):
                self.same(parts(meter.wider(k)), (tuple(str(wheel.wider(k)) for wheel in meter), numbers(meter)))
            self.same(parts(meter), before)
        bound = meter = Meter(Even(9, 2), Grid(4), lost=1)
        bound *= 2
        self.same(parts(bound), (("wheel 18 4 4", "grid 8"), (0, 0, 1)))
        self.same(parts(meter.wider(k=2)), (("wheel 9 4 4", "grid 4"), (0, 0, 1)))

    def test_times_and_wider_wrong(self):
        for meter in (Meter(*EIGHT), Meter(Grid(4))):
            for value in others(lambda value: is_int(value) and 1 <= value <= MOST):
                self.raises(BadNumber(value), lambda: meter * value)
            for value in others(lambda value: is_int(value) and 0 <= value <= MOST):
                self.raises(BadNumber(value), meter.wider, value)
        self.raises(BadWheel("period"), lambda: Meter(Grid(4), Exact(5)) * MOST)
        self.raises(BadWheel("back"), Meter(Grid(4), Exact(5), Even(7, 1)).wider, MOST)
        self.raises(BadWheel("ahead"), Meter(Wheel(7, 0, 1), Even(7, 1)).wider, MOST)
        self.same(parts(Meter(Grid(4), Exact(5)).wider(MOST))[0], ("grid 4", f"wheel 5 {MOST} {MOST}"))

    def test_without(self):
        meter = Meter(*EIGHT, off=1, more=2, lost=3)
        self.same(meter.without() == meter, True)
        for many in range(1, 9):
            for places in itertools.combinations(range(8), many):
                left = [str(wheel) for at, wheel in enumerate(EIGHT) if at not in places]
                if left:
                    self.same(parts(meter.without(*places)), (tuple(left), (1, 2, 3)))
                    self.same(parts(meter.without(*places, *places[::-1])), (tuple(left), (1, 2, 3)))
                else:
                    self.raises(BadMeter("wheels"), meter.without, *places)
        for value in others(lambda value: is_int(value) and 0 <= value <= 7) + [8, -1]:
            self.raises(NoPlace(value), meter.without, value)
            self.raises(NoPlace(value), meter.without, 0, 0, value, None)
            self.raises(NoPlace(value), meter.without, value, None)
        self.raises(NoPlace(8), meter.without, *range(9))
        self.raises(NoPlace(1), Meter(Exact(5)).without, 0, 1)

    def test_with_numbers(self):
        meter = Meter(*EIGHT, off=1, more=2, lost=3)
        self.same(parts(meter.with_numbers(0, 8, 4)), (texts(meter), (0, 8, 4)))
        self.same(parts(meter.with_numbers(lost=1, more=0, off=2)), (texts(meter), (2, 0, 1)))
        self.same(numbers(meter), (1, 2, 3))


    def test_nothing_changes_a_meter(self):
        meter = Meter(*EIGHT[:6], off=1, more=2, lost=3)
        before, wheels = parts(meter), meter.wheels
        self.assertEqual((len(meter + meter[:1]), len(meter * 3)), (7, 6))
        meter.wider(2)
        meter.without(1, 2)
        meter.with_numbers(0, 0, 0)
        meter[1:4]
        meter(7)
        marks = [0, None, 0, 0, 0, 0]
        need_reading(meter, marks)
        list(meter.choices())
        meter.parting(9)
        meter.is_blind(9)
        self.same((parts(meter), marks), (before, [0, None, 0, 0, 0, 0]))
        self.assertIs(meter.wheels, wheels)
        fewer = meter.with_numbers(0, 1, 1)
        first, second = fewer.choices(), fewer.choices()
        self.same([next(first), next(first), next(second)], [(0, 1, 2, 3), (0, 1, 2, 4), (0, 1, 2, 3)])


class Parting(Case):
    def test_parting_and_blind(self):
        rng = dice(52)
        for _ in range(150):
            meter = random_meter(rng)
            for d in [*range(-30, 31, 3), rng.randint(-FAR, FAR), FAR, 27720, 27720 * FAR]:
                parting = tuple(at for at, wheel in enumerate(meter.wheels)
                                if min(d % wheel.period, -d % wheel.period) > wheel.back + wheel.ahead)
                self.same(meter.parting(d), parting)
                trusted = [at for at in parting if isinstance(meter.wheels[at], Grid)]
                blind = not trusted and len(parting) <= 2 * meter.off + meter.more + meter.lost
                self.same(meter.is_blind(d), blind)
        self.same((Meter(Exact(5)).parting(d=3), Meter(Exact(5)).is_blind(d=3)), ((0,), False))

    def test_wrong_differences(self):
        for meter in (Meter(*EIGHT), Meter(Exact(5), off=1)):
            for value in others(is_int):
                self.raises(BadNumber(value), meter.parting, value)
                self.raises(BadNumber(value), meter.is_blind, value)

    def test_choices(self):
        rng = dice(53)
        for _ in range(150):
            meter = random_meter(rng)
            others_there = [at for at, wheel in enumerate(meter.wheels) if not wheel.trusted]
            many = max(0, len(others_there) - meter.spare)
            wanted = []
            for length in range(9):
                for places in itertools.combinations(range(len(meter)), length):
                    held = [at for at in places if meter.wheels[at].trusted]
                    if len(held) == len(meter) - len(others_there) and length - len(held) == many:
                        wanted.append(places)
            self.same(list(meter.choices()), sorted(wanted))

    def test_blind_exactly_if_a_choice_parts_nothing(self):
        rng = dice(54)
        for _ in range(80):
            meter = random_meter(rng, 5)
            for d in range(-40, 41):
                found = any(not set(choice) & set(meter.parting(d)) for choice in meter.choices())
                self.same(meter.is_blind(d), found)

    def test_choices_without_wheels(self):
        self.same(list(Meter(Exact(5), Exact(7), lost=2).choices()), [()])
        self.same(list(Meter(Exact(5), Exact(7), off=8, more=8, lost=8).choices()), [()])
        self.same(list(Meter(Exact(5), Grid(3), Exact(7), lost=2).choices()), [(1,)])
        self.same(list(Meter(Exact(5), Grid(3), Exact(7), lost=1).choices()), [(0, 1), (1, 2)])


class Readings(Case):
    def test_right_readings(self):
        meter = Meter(Exact(3), Grid(2), Even(4, 9), lost=1)
        for marks in itertools.product([None, 0, 1, 2, 3, 4, -1], repeat=3):
            for kind in (tuple, list):
                wrong = [at for at, (mark, wheel) in enumerate(zip(marks, meter))
                         if (mark is None and wheel.trusted) or (mark is not None and not 0 <= mark < wheel.period)]
                if wrong:
                    self.raises(BadMark(wrong[0]), need_reading, meter, kind(marks))
                elif marks.count(None) > 1:
                    self.raises(BadMark("lost"), need_reading, meter, kind(marks))
                else:
                    self.same(need_reading(meter, kind(marks)), None)
        self.same(need_reading(marks=[0, 0, 0], meter=meter), None)

    def test_reasons_in_their_order(self):
        meter = Meter(Exact(3), Grid(2), lost=0)
        for value in [*ANY, Exact(5)]:
            self.raises(BadMeter("meter"), need_reading, value, None)
            self.raises(BadMeter("meter"), need_reading, value, (0, 0))
        for value in ANY:
            if not (isinstance(value, (list, tuple)) and len(value) == 2):
                self.raises(BadMark(None), need_reading, meter, value)
        for value in ((0,), (0, 0, 0), (None,), (None, None, None), [], "00", {0: 0, 1: 0}):
            self.raises(BadMark(None), need_reading, meter, value)
        for value in others(lambda value: value is None or is_int(value) and 0 <= value < 3):
            self.raises(BadMark(0), need_reading, meter, (value, 5))
            self.raises(BadMark(0), need_reading, meter, [value, None])
        for value in others(lambda value: is_int(value) and 0 <= value < 2):
            self.raises(BadMark(1), need_reading, meter, (None, value))
            self.raises(BadMark(1), need_reading, meter, [2, value])
        self.raises(BadMark("lost"), need_reading, meter, (None, 1))

    def test_lost_at_its_bounds(self):
        for lost in range(9):
            meter = Meter(*[Exact(9)] * 8, lost=lost)
            for many in range(9):
                marks = [None] * many + [8] * (8 - many)
                if many > lost:
                    self.raises(BadMark("lost"), need_reading, meter, marks)
                else:
                    self.same(need_reading(meter, marks), None)


class Texts(Case):
    def bad(self, text, word):
        self.raises(BadText(0, word), Meter.read, text)

    def test_equal(self):
        one = Meter(Even(9, 2), Grid(4), lost=1)
        wide, grid = Even(9, 2), Grid(4)
        for other, equal in ((Meter(Wheel(9, 2, 2), grid, lost=1), True), (Meter(grid, wide, lost=1), False),
                             (Meter(wide, Exact(4), lost=1), False), (Meter(wide, lost=1), False),
                             (Meter(wide, grid), False), (Meter(wide, grid, off=1), False),
                             (Meter(wide, grid, more=1), False), (Meter(wide, grid, lost=1, more=1), False),
                             (Meter(wide, grid, lost=1, off=1), False), (Meter(wide, grid, grid, lost=1), False)):
            self.same((one == other, other == one, one != other), (equal, equal, not equal))
        for value in [*ANY, Even(9, 2)]:
            self.same((one == value, one != value), (False, True))

    def test_str_and_read(self):
        rng = dice(55)
        for _ in range(200):
            meter = random_meter(rng)
            wanted = " , ".join(texts(meter)) + f" ; off {meter.off} more {meter.more} lost {meter.lost}"
            self.same(str(meter), wanted)
            self.same(parts(Meter.read(wanted)), parts(meter))
            self.same(Meter.read(text=wanted) == meter, True)

    def test_wrong_texts(self):
        for value in others(lambda value: isinstance(value, str)):
            self.bad(value, 0)
        for text in ("", " ", "x", "meter", ";", ",", "off"):
            self.bad(text, 0)
        words = "wheel 10 3 2 , grid 4 , wheel 9 2 0 ; off 1 more 2 lost 3".split(" ")
        for many in range(1, len(words)):
            self.bad(" ".join(words[:many]), many)
            self.bad(" ".join(words[:many] + [""]), many)
        for at in range(len(words)):
            for other in ("", "x", "-1", "01", "+1", "1.0", "OFF", "\n", ":"):
                self.bad(" ".join(words[:at] + [other] + words[at + 1:]), at)
                self.bad(" ".join(words[:at] + [other] + words[at:]), at)
        for at in range(len(words)):
            # of some numbers behind one another it is the last one that is missed
            missed = at
            while words[at].isdigit() and missed + 1 < len(words) and words[missed + 1].isdigit():
                missed += 1
            self.bad(" ".join(words[:at] + words[at + 1:]), missed)
        self.bad(" ".join(words) + " ", len(words))
        self.bad(" ".join(words) + " ;", len(words))
        self.bad(" ".join(words) + " lost 3", len(words))
        self.bad("wheel 10 3 2 ; more 0 off 0 lost 0", 5)
        self.bad("wheel 10 3 2 , ; off 0 more 0 lost 0", 5)
        self.bad("; off 0 more 0 lost 0", 0)

    def test_bounds_of_texts(self):
        for at in (12, 14, 16):
            words = "wheel 10 3 2 , grid 4 , grid 9 ; off 1 more 2 lost 3".split(" ")
            for number in range(9):
                words[at] = str(number)
                self.same(str(Meter.read(" ".join(words))), " ".join(words))
            for wrong in ("9", "10", str(MOST), str(10 ** 120), "-1", "x"):
                words[at] = wrong
                self.bad(" ".join(words), at)
        self.bad("wheel 1 0 0 ; off 0 more 0 lost 0", 1)
        self.bad(f"grid 4 , grid {MOST + 1} ; off 0 more 0 lost 0", 4)
        self.bad(f"grid 4 , wheel 4 {MOST + 1} 0 ; off 0 more 0 lost 0", 5)
        self.bad(f"grid 4 , wheel 4 {MOST} {MOST + 1} ; off 0 more 0 lost 0", 6)

    def test_eight_wheels(self):
        rest = " ; off 0 more 0 lost 0"
        eight = " , ".join(["grid 4"] * 8)
        self.same(len(Meter.read(eight + rest)), 8)
        self.bad(eight + " , grid 4" + rest, 23)
        self.bad(eight + " ,", 23)
        self.bad(eight + " grid", 23)
        self.bad(eight, 23)
        self.bad(" , ".join(["grid 4"] * 7) + " x", 20)
        self.bad(" , ".join(["grid 4"] * 7) + " ,", 21)


if __name__ == "__main__":
    unittest.main()
