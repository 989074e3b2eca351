"""lots.py: str and read."""

import math
import unittest

from helpers import Case, dice, others, random_lot, small_lots
from wheelreach.errors import BadText
from wheelreach.joins import joined
from wheelreach.lots import Lot

MOST = 10 ** 100


class Texts(Case):
    def bad(self, text, word):
        self.raises(BadText(0, word), Lot.read, text)

    def test_str_and_read(self):
        rng = dice(12)
        lots = [lot for _, _, lot in small_lots()] + [random_lot(rng, 50, 6) for _ in range(200)]
        for lot in lots:
            text = str(lot)
            if lot == Lot.every():
                wanted = "every"
            elif not lot:
                wanted = "none"
            else:
                wanted = f"modulo {lot.period} : " + " , ".join(f"{b} to {e}" for b, e in lot)
            self.same(text, wanted)
            read = Lot.read(text)
            self.same((read.period, read.runs, str(read)), (lot.period, lot.runs, text))
        self.same(Lot.read(text="every"), Lot.every())
        self.same(Lot(3, (1, 1)).read("none"), Lot.none())

    def test_str_of_great_integers(self):
        primes = [10 ** 119 + n for n in range(1, 90, 2)]
        lot = joined(*[Lot.multiples(n) for n in primes])
        period = 1
        for n in primes:
            period = math.lcm(period, n)
        text = str(lot)
        words = text.split(" ")
        self.same(words[0::2], ["modulo", ":", "to"])
        self.assertGreater(len(words[1]), 4300)
        value = 0
        for at in range(0, len(words[1]), 1000):
            part = words[1][at:at + 1000]
            value = value * 10 ** len(part) + int(part)
        self.same(value, period)
        for digits in (63, 64, 65, 127, 128, 129, 192, 700):
            for number in (10 ** digits, 10 ** digits + 1, 10 ** digits - 1):
                self.same(str(Lot(number, (0, 0))), f"modulo {number} : 0 to 0")

    def test_no_string(self):
        for value in others(lambda value: isinstance(value, str)):
            self.bad(value, 0)

    def test_first_words(self):
        for text in ("", " ", "Every", "modul", "0", " every", "\n", "every\n", "A" * 3000):
            self.bad(text, 0)
        self.bad("every ", 1)
        self.bad("none x", 1)
        self.bad("every every", 1)
        self.bad("none : 1 to 1", 1)

    def test_missing_words(self):
        text = "modulo 9 : 1 to 2 , 5 to 6"
        words = text.split(" ")
        for many in range(1, len(words)):
            if many != 6:
                self.bad(" ".join(words[:many]), many)
        self.same(str(Lot.read(" ".join(words[:6]))), "modulo 9 : 1 to 2")
        self.bad(text + " ,", 11)
        self.bad(text + " x", 10)
        self.bad(text + " ", 10)
        self.bad("modulo 9 : 1 to 2 ", 6)

    def test_words_put_in_and_exchanged(self):
        words = "modulo 9 : 1 to 2 , 5 to 6".split(" ")
        for at in range(len(words)):
            for other in ("x", "", "-1", "01", "+1", "Every", "1_0", " ", "1.0", "\n", "0x1"):
                changed = list(words)
                changed[at] = other
                self.bad(" ".join(changed), at)
                self.bad(" ".join(words[:at] + [other] + words[at:]), at)
        # left out: the next word stands at its place
        for at in range(len(words) - 1):
            if at not in (6,):
                self.bad(" ".join(words[:at] + words[at + 1:]), at)
        self.bad("modulo 9 : 1 to 2 5 to 6", 6)

    def test_integers_as_str_writes_them(self):
        for wrong in ("-0", "+2", "02", "00", "2.", "2e3", "1" * 121, "0" * 2, "-2", "2,", "2:"):
            self.bad(f"modulo {wrong} : 0 to 0", 1)
            self.bad(f"modulo 9 : {wrong} to 3", 3)
            self.bad(f"modulo 9 : 0 to {wrong}", 5)

    def test_bounds_of_the_period(self):
        self.same(Lot.read("modulo 2 : 0 to 0").period, 2)
        self.same(Lot.read(f"modulo {MOST} : 0 to 0").period, MOST)
        for wrong in (0, 1, MOST + 1, 10 ** 120 - 1, 10 ** 120):
            self.bad(f"modulo {wrong} : 0 to 0", 1)

    def test_bounds_of_begins_and_ends(self):
        self.same(str(Lot.read("modulo 9 : 8 to 15")), "modulo 9 : 8 to 15")
        self.same(str(Lot.read("modulo 9 : 0 to 7")), "modulo 9 : 0 to 7")
        self.bad("modulo 9 : 9 to 9", 3)
        self.bad("modulo 9 : 8 to 16", 5)
        self.bad("modulo 9 : 0 to 8", 5)
        self.bad("modulo 9 : 3 to 2", 5)
        self.same(str(Lot.read("modulo 9 : 3 to 4 , 6 to 10")), "modulo 9 : 3 to 4 , 6 to 10")
        self.bad("modulo 9 : 3 to 4 , 5 to 10", 7)
        self.bad("modulo 9 : 3 to 4 , 2 to 10", 7)
        self.bad("modulo 9 : 3 to 4 , 9 to 10", 7)
        self.bad("modulo 9 : 3 to 4 , 6 to 11", 9)
        self.bad("modulo 9 : 3 to 4 , 6 to 5", 9)
        self.bad("modulo 9 : 0 to 0 , 2 to 2 , 8 to 8", 13)
        self.bad("modulo 9 : 0 to 7 ,", 7)
        self.bad("modulo 9 : 0 to 7 , 9 to 9", 7)

    def test_forms_that_are_not_least(self):
        self.bad("modulo 4 : 1 to 1 , 3 to 3", 1)
        self.bad("modulo 12 : 1 to 2 , 7 to 8", 1)
        self.bad("modulo 4 : 1 to 1 , 3 to 3 ,", 11)
        self.bad("modulo 4 : 1 to 1 , 3 to 3 x", 10)
        self.same(Lot.read("modulo 12 : 1 to 2 , 7 to 9"), Lot(12, (1, 2), (7, 9)))

    def test_two_thousand_runs(self):
        rows = [f"{3 * k} to {3 * k + (k == 7)}" for k in range(2001)]
        text = f"modulo 9000 : {' , '.join(rows[:2000])}"
        self.same((len(Lot.read(text)), str(Lot.read(text)) == text), (2000, True))
        self.bad(text + " ,", 3 + 2000 * 4 - 1)
        self.bad(text + " , 6000 to 6000", 3 + 2000 * 4 - 1)
        self.bad(f"modulo 9000 : {' , '.join(rows[:1999])} ,", 3 + 1999 * 4)


if __name__ == "__main__":
    unittest.main()
