"""wheels.py: the wheels, their marks and what they part, against all slips tried one by one."""

import itertools
import unittest

from helpers import ANY, Case, dice, is_int, members_of, others
from wheelreach.errors import BadNumber, BadText, BadValue, BadWheel
from wheelreach.lots import Lot
from wheelreach.wheels import Even, Exact, Grid, Lagging, Wheel

MOST = 10 ** 12
FAR = 10 ** 119


def can_show(wheel, value):
    """The marks that a wheel can show at a value, slip by slip, from -back on, each once."""
    marks = []
    for slip in range(-wheel.back, wheel.ahead + 1):
        mark = (value + slip) % wheel.period
        if mark not in marks:
            marks.append(mark)
    return marks


def small_wheels():
    wheels = [Wheel(period, back, ahead) for period in range(2, 8) for back in range(10) for ahead in range(0, 10, 2)]
    return wheels + [Even(5, 1), Exact(6), Lagging(7, 3), Grid(4), Grid(2), Even(9, 2), Even(10, 2)]


def parts(wheel):
    return (wheel.period, wheel.back, wheel.ahead, wheel.TRUSTED)


class Making(Case):
    def test_examples(self):
        hundred, ninety = Even(100, 1), Even(90, 1)
        self.same([hundred(898), list(ninety.each_mark(0)), ninety.lets(0, 89), ninety.lets(0, 2)],
                  [98, [89, 0, 1], True, False])
        self.same([hundred.does_part(898), hundred.does_part(897)], [False, True])
        self.same([str(Lagging(10, 2)), list(Lagging(10, 2).each_mark(11))], ["wheel 10 2 0", [9, 0, 1]])
        self.same([str(hundred.near), str(Wheel(10, 1, 2).shown_by(0)), Even(5, 1) == Wheel(5, 1, 1)],
                  ["modulo 100 : 98 to 102", "modulo 10 : 8 to 11", True])
        self.same([Exact(7) == Grid(7), str(Grid(7) * 3), str(Grid(7).wider(2)), str(Exact(7).wider(2))],
                  [False, "grid 21", "grid 7", "wheel 7 2 2"])
        self.same([Even(9, 2).never_parts, Even(10, 2).never_parts], [True, False])
        self.raises(BadWheel("ahead"), Wheel, 10, 1, -1)
        self.raises(BadText(0, 3), Wheel.read, "wheel 10 1")

    def test_attributes(self):
        self.same(parts(Wheel(10, 1, 2)), (10, 1, 2, False))
        self.same(parts(Even(10, 3)), (10, 3, 3, False))
        self.same(parts(Exact(10)), (10, 0, 0, False))
        self.same(parts(Lagging(10, 3)), (10, 3, 0, False))
        self.same(parts(Grid(10)), (10, 0, 0, True))
        self.same(parts(Wheel(ahead=2, back=1, period=10)), (10, 1, 2, False))
        self.same(parts(Even(slip=2, period=9)), (9, 2, 2, False))
        self.same(parts(Lagging(lag=2, period=9)), (9, 2, 0, False))
        self.same((parts(Exact(period=9)), parts(Grid(period=9))), ((9, 0, 0, False), (9, 0, 0, True)))
        for made in (Even, Exact, Lagging, Grid):
            self.assertEqual(made.__bases__, (Wheel,))
            self.same(made.TRUSTED, made is Grid)
            self.assertIn("__init__", vars(made))
        self.same((Wheel.TRUSTED, Wheel(9, 1, 1).TRUSTED), (False, False))

    def test_bounds(self):
        for period in (2, 3, MOST - 1, MOST):
            for slip in (0, 1, MOST - 1, MOST):
                self.same(parts(Wheel(period, slip, 0)), (period, slip, 0, False))
                self.same(parts(Wheel(period, 0, slip)), (period, 0, slip, False))
                self.same(parts(Even(period, slip)), (period, slip, slip, False))
                self.same(parts(Lagging(period, slip)), (period, slip, 0, False))
            self.same((parts(Exact(period)), parts(Grid(period))), ((period, 0, 0, False), (period, 0, 0, True)))

    def test_wrong_parts(self):
        for value in others(lambda value: is_int(value) and 2 <= value <= MOST):
            self.raises(BadWheel("period"), Wheel, value, 0, 0)
            self.raises(BadWheel("period"), Wheel, value, None, None)
            self.raises(BadWheel("period"), Even, value, None)
            self.raises(BadWheel("period"), Lagging, value, None)
            self.raises(BadWheel("period"), Exact, value)
            self.raises(BadWheel("period"), Grid, value)
        for value in others(lambda value: is_int(value) and 0 <= value <= MOST):
            self.raises(BadWheel("back"), Wheel, 10, value, 0)
            self.raises(BadWheel("back"), Wheel, 10, value, None)
            self.raises(BadWheel("ahead"), Wheel, 10, 0, value)
            self.raises(BadWheel("slip"), Even, 10, value)
            self.raises(BadWheel("lag"), Lagging, 10, value)

    def test_properties(self):
        for wheel in small_wheels():
            self.same(wheel.trusted, wheel.TRUSTED)
            self.same(wheel.play, wheel.back + wheel.ahead)
            self.same(wheel.never_parts, 2 * wheel.play >= wheel.period - 1)
            self.same(wheel.never_parts, not any(wheel.does_part(d) for d in range(wheel.period)))


class Marks(Case):
    def test_call(self):
        for wheel in small_wheels():
            for value in range(-20, 21):
                self.same(wheel(value), value % wheel.period)
            self.same(wheel(value=FAR + 1), (FAR + 1) % wheel.period)

    def test_each_mark(self):
        for wheel in small_wheels():
            for value in [*range(-12, 13), FAR, -FAR]:
                self.same(list(wheel.each_mark(value)), can_show(wheel, value), (str(wheel), value))
        self.same(list(Exact(9).each_mark(value=11)), [2])

    def test_each_mark_of_great_wheels(self):
        marks = Wheel(MOST, MOST, MOST).each_mark(5)
        self.same([next(marks) for _ in range(3)], [5, 6, 7])
        marks = Wheel(MOST, 7, MOST).each_mark(5)
        self.same([next(marks) for _ in range(3)], [MOST - 2, MOST - 1, 0])

    def test_lets(self):
        for wheel in small_wheels():
            for value in range(-9, 10):
                marks = can_show(wheel, value)
                for mark in range(-3, wheel.period + 3):
                    self.same(wheel.lets(value, mark), mark in marks)
            for mark in others(is_int):
                self.same(wheel.lets(1, mark), False)
        self.same((Even(MOST, 5).lets(FAR, 6), Even(MOST, 5).lets(FAR, 5), Even(MOST, 5).lets(-FAR, MOST - 5)),
                  (False, True, True))
        self.same(Even(MOST, MOST).lets(FAR, MOST), False)
        self.same(Even(9, 1).lets(mark=3, value=11), True)

    def test_shown_by(self):
        for wheel in small_wheels():
            for mark in range(wheel.period):
                wanted = [x for x in range(-20, 21) if mark in can_show(wheel, x)]
                self.same(members_of(wheel.shown_by(mark), -20, 20), wanted)
        self.same(Wheel(MOST, 3, 5).shown_by(MOST - 1), Lot(MOST, (-6, 2)))
        self.same(Exact(9).shown_by(mark=2), Lot(9, (2, 2)))

    def test_does_part_and_near(self):
        for wheel in small_wheels():
            apart = [d for d in range(-20, 21) if all(abs(d - wheel.period * n) > wheel.play for n in range(-30, 31))]
            self.same([d for d in range(-20, 21) if wheel.does_part(d)], apart)
            near = [d for d in range(-20, 21) if d not in apart]
            self.assertIs(type(wheel.near), Lot)
            self.same(members_of(wheel.near, -20, 20), near)
            shared = [d for d in range(-20, 21) if set(can_show(wheel, 3)) & set(can_show(wheel, 3 + d))]
            self.same(near, shared)
        self.same((Even(MOST, 5).does_part(FAR + 10), Even(MOST, 5).does_part(FAR + 11)), (False, True))
        self.same(Even(MOST, 5).does_part(d=-11), True)
        self.same(Wheel(MOST, 3, 5).near, Lot(MOST, (-8, 8)))

    def test_wrong_values(self):
        for wheel in (Wheel(7, 1, 2), Grid(3), Even(5, 9)):
            for value in others(is_int):
                self.raises(BadValue(value), wheel, value)
                self.raises(BadValue(value), wheel.each_mark, value)
                self.raises(BadValue(value), wheel.lets, value, 0)
                self.raises(BadValue(value), wheel.lets, value, None)
                self.raises(BadNumber(value), wheel.does_part, value)
            for value in others(lambda value: is_int(value) and 0 <= value < wheel.period) + [wheel.period]:
                self.raises(BadNumber(value), wheel.shown_by, value)
            self.same(wheel.shown_by(wheel.period - 1), Lot(
                wheel.period, (wheel.period - 1 - wheel.ahead, wheel.period - 1 + wheel.back)))


class Changed(Case):
    def test_wider(self):
        for wheel in small_wheels():
            before = parts(wheel)
            for k in (0, 1, 5, MOST - 10):
                grown = 0 if wheel.TRUSTED else k
                self.same(parts(wheel.wider(k)), (wheel.period, wheel.back + grown, wheel.ahead + grown, wheel.TRUSTED))
            self.same(parts(wheel), before)
        self.same(parts(Wheel(9, 1, 2).wider(k=3)), (9, 4, 5, False))

    def test_times(self):
        for wheel in small_wheels():
            before = parts(wheel)
            for n in (1, 2, 7, 10 ** 10):
                self.same(parts(wheel * n), (wheel.period * n, wheel.back * n, wheel.ahead * n, wheel.TRUSTED))
            self.same(parts(wheel), before)
        bound = wheel = Wheel(9, 1, 2)
        bound *= 3
        self.same((parts(bound), parts(wheel)), ((27, 3, 6, False), (9, 1, 2, False)))

    def test_bounds(self):
        self.same(parts(Wheel(9, 0, 1).wider(MOST - 1)), (9, MOST - 1, MOST, False))
        self.raises(BadWheel("ahead"), Wheel(9, 0, 1).wider, MOST)
        self.raises(BadWheel("back"), Wheel(9, 2, 1).wider, MOST)
        self.raises(BadWheel("back"), Even(9, 1).wider, MOST)
        self.same(parts(Exact(9).wider(MOST)), (9, MOST, MOST, False))
        self.same(parts(Grid(9).wider(MOST)), (9, 0, 0, True))
        self.same(parts(Wheel(2, 2, 0) * (MOST // 2)), (MOST, MOST, 0, False))
        self.raises(BadWheel("period"), lambda: Wheel(3, 4, 5) * (MOST // 2))
        self.raises(BadWheel("period"), lambda: Grid(2) * MOST)
        self.raises(BadWheel("back"), lambda: Wheel(2, 3, 3) * (MOST // 2))
        self.raises(BadWheel("ahead"), lambda: Wheel(2, 2, 3) * (MOST // 2))

    def test_wrong_numbers(self):
        for wheel in (Wheel(7, 1, 2), Grid(3), Even(5, 9)):
            for value in others(lambda value: is_int(value) and 0 <= value <= MOST):
                self.raises(BadNumber(value), wheel.wider, value)
            for value in others(lambda value: is_int(value) and 1 <= value <= MOST):
                self.raises(BadNumber(value), lambda: wheel * value)


class Texts(Case):
    def bad(self, text, word):
        self.raises(BadText(0, word), Wheel.read, text)

    def test_equal(self):
        wheels = small_wheels()
        for one, other in itertools.product(wheels[::3], wheels):
            self.same((one == other, one != other), (parts(one) == parts(other), parts(one) != parts(other)))
        for one, other in ((Wheel(9, 0, 0), Exact(9)), (Even(9, 2), Wheel(9, 2, 2)), (Lagging(9, 2), Wheel(9, 2, 0)),
                           (Grid(9), Grid(9)), (Even(9, 0), Lagging(9, 0))):
            self.same((one == other, other == one, one != other), (True, True, False))
        for one, other in ((Exact(9), Grid(9)), (Grid(9), Wheel(9, 0, 0)), (Grid(9), Grid(8)),
                           (Wheel(9, 1, 2), Wheel(9, 2, 1))):
            self.same((one == other, other == one, one != other), (False, False, True))
        for value in ANY:
            self.same((Wheel(5, 0, 1) == value, Grid(5) == value, Grid(5) != value), (False, False, True))

    def test_str_and_read(self):
        for wheel in [*small_wheels(), Wheel(MOST, MOST, MOST), Grid(MOST), Wheel(2, 0, 0)]:
            wanted = f"grid {wheel.period}" if wheel.TRUSTED else f"wheel {wheel.period} {wheel.back} {wheel.ahead}"
            self.same(str(wheel), wanted)
            self.same(parts(Wheel.read(wanted)), parts(wheel))
            self.same(parts(Even.read(text=wanted)), parts(wheel))
        self.assertIs(type(Wheel.read("grid 7")), Grid)

    def test_wrong_texts(self):
        for value in others(lambda value: isinstance(value, str)):
            self.bad(value, 0)
        for text in ("", " ", "Wheel", "wheels", "grids", "9", "\n", " wheel 10 1 1", "even 10 1"):
            self.bad(text, 0)
        for words in (["wheel", "10", "3", "2"], ["grid", "10"]):
            for many in range(1, len(words)):
                self.bad(" ".join(words[:many]), many)
                self.bad(" ".join(words[:many]) + " ", many)
            for at in range(len(words)):
                for other in ("", "x", "-1", "01", "+1", "1.0", "1_0", "-0", "1\n", "wheell"):
                    self.bad(" ".join(words[:at] + [other] + words[at + 1:]), at)
                    self.bad(" ".join(words[:at] + [other] + words[at:]), at)
                left = words[:at] + words[at + 1:]
                self.bad(" ".join(left), 0 if at == 0 else len(left))
            self.bad(" ".join(words) + " ", len(words))
            self.bad(" ".join(words) + " 3", len(words))
            self.bad(" ".join(words) + " ,", len(words))
        self.bad("grid 10 0 0", 2)
        self.bad("grid wheel", 1)

    def test_bounds_of_texts(self):
        for wrong in (0, 1, MOST + 1, 10 ** 119, 10 ** 120, 10 ** 121):
            self.bad(f"wheel {wrong} 0 0", 1)
            self.bad(f"grid {wrong}", 1)
        for wrong in (MOST + 1, 10 ** 119, 10 ** 130):
            self.bad(f"wheel 10 {wrong} 0", 2)
            self.bad(f"wheel 10 0 {wrong}", 3)
        self.bad("wheel 1 x", 1)

    def test_random_words(self):
        rng = dice(41)
        pool = ["wheel", "grid", "0", "1", "2", "10", "x", "", str(MOST), str(MOST + 1)]
        for _ in range(3000):
            words = [rng.choice(pool) for _ in range(rng.randint(1, 5))]
            if words[0] != "grid" and rng.random() < 0.8:
                words[0] = "wheel"
            self.check(words)

    def check(self, words):
        """Each word may stand by its place alone: so the first wrong one is found without the program."""
        allowed = [{"wheel", "grid"}, {"2", "10", str(MOST)}, {"0", "1", "2", "10", str(MOST)}]
        allowed = allowed[:2] if words[0] == "grid" else allowed + allowed[2:]
        for at, word in enumerate(words):
            if at >= len(allowed) or word not in allowed[at]:
                return self.bad(" ".join(words), at)
        if len(words) < len(allowed):
            return self.bad(" ".join(words), len(words))
        return self.same(str(Wheel.read(" ".join(words))), " ".join(words))


if __name__ == "__main__":
    unittest.main()
