"""texts.py: texts of readings, runs, shelves and verdicts."""

import unittest

from helpers import ANY, Case, is_int
from test_design import FOUR, shelf_of
from wheelreach.errors import BadMark, BadShelf, BadValue
from wheelreach.joins import Join
from wheelreach.meters import Meter
from wheelreach.reaches import Sure, Unsure, sure
from wheelreach.readings import fits
from wheelreach.shelf import Shelf
from wheelreach.texts import reading_text, runs_text, shelf_text, verdict_text
from wheelreach.wheels import Even, Exact, Grid, Wheel

FAR = 10 ** 12
PAIR = Meter(Even(100, 1), Even(90, 1))


class Examples(Case):
    def test_examples(self):
        self.same([reading_text((40, None, 7)), runs_text(((3, 5), (9, 9))), runs_text(())],
                  ['40 - 7', '3 to 5 , 9 to 9', 'none'])
        self.same([verdict_text(sure(PAIR, 899, 2)).split("\n"), verdict_text(sure(PAIR, 898, 2)).split("\n")],
                  [['unsure 0 898', 'marks 99 89', 'off - / -'], ['sure', 'choice', '100 : 98 to 102',
                                                                 '900 : 898 to 902']])
        self.same([reading_text(marks=[1]), runs_text(runs=()), shelf_text(shelf=Shelf()),
                   verdict_text(value=Sure(((),)))], ["1", "none", "-", "sure\nchoice"])


class Readings(Case):
    def test_texts(self):
        self.same([reading_text([0]), reading_text((None,)), reading_text([None] * 8), reading_text(tuple(range(8)))],
                  ["0", "-", "- - - - - - - -", "0 1 2 3 4 5 6 7"])
        self.same(reading_text((10 ** 120 - 1, 10 ** 119)), "9" * 120 + " 1" + "0" * 119)

    def test_errors(self):
        for value in [*ANY, [0] * 9, (None,) * 9, "123", {0: 1}]:
            if not isinstance(value, (list, tuple)) or not 1 <= len(value) <= 8:
                self.raises(BadMark(None), reading_text, value)
        for value in [*ANY, -1, 1.0]:
            if value is not None and not (is_int(value) and value >= 0):
                self.raises(BadMark(0), reading_text, [value])
                self.raises(BadMark(0), reading_text, (value, value))
                self.raises(BadMark(2), reading_text, (0, None, value, -1))
                self.raises(BadMark(7), reading_text, [0] * 7 + [value])


class Runs(Case):
    def test_texts(self):
        self.same([runs_text(((-5, -3), (0, 0))), runs_text(((10 ** 119, 10 ** 120),))],
                  ["-5 to -3 , 0 to 0", f"{10 ** 119} to {10 ** 120}"])
        self.same(runs_text(fits(PAIR, (40, 70), -1000, 1000)),
                  "-561 to -559 , 339 to 341")
        great = 10 ** 5000
        self.same(runs_text(((-great, great),)), f"-1{'0' * 5000} to 1{'0' * 5000}")
        self.same(runs_text(tuple((3 * n, 3 * n + 1) for n in range(500))),
                  " , ".join(f"{3 * n} to {3 * n + 1}" for n in range(500)))


class Shelves(Case):
    def test_texts(self):
        self.same(shelf_text(FOUR).split("\n"), ["a 3 : wheel 7 0 0", "b 4 : wheel 9 0 0", "c 5 : wheel 11 0 0",
                                                "d 6 : wheel 100 1 1"])
        shelf = shelf_of(zzzzzzzz=(Grid(FAR), FAR), b=(Wheel(FAR, 0, FAR), 0), ab=(Exact(2), 1))
        self.same(shelf_text(shelf), f"ab 1 : wheel 2 0 0\nb 0 : wheel {FAR} 0 {FAR}\nzzzzzzzz {FAR} : grid {FAR}")
        self.same(shelf_text(Shelf()), "-")
        for value in [*ANY, PAIR, ("a",), {"a": (Exact(7), 3)}]:
            self.raises(BadShelf("shelf"), shelf_text, value)


class Verdicts(Case):
    def test_unsure(self):
        self.same(verdict_text(Unsure(0, 10 ** 100, (1, None, 3), (0,), (1, 2, 7))),
                  f"unsure 0 {10 ** 100}\nmarks 1 - 3\noff 0 / 1 2 7")
        found = sure(Meter(Exact(7), Exact(9), Exact(11), Exact(13), off=1, lost=1), 100, 0)
        self.same(verdict_text(found), "unsure 0 7\nmarks 0 - 7 0\noff 2 / 3")

    def test_sure(self):
        found = sure(Meter(Exact(4), Grid(6), Even(5, 3), lost=1), 1, 0)
        rows = ["sure"]
        for tables in found.tables:
            rows.append("choice")
            for period, runs in tables:
                rows.append(f"{period} : " + " , ".join(f"{begin} to {end}" for begin, end in runs))
        self.same(verdict_text(found).split("\n"), rows)
        self.same(rows, ["sure", "choice", "4 : 0 to 0", "12 : 0 to 0", "choice", "6 : 0 to 0", "6 : 0 to 0"])
        self.same(verdict_text(Sure(((), ((1, ()), (5, ((0, 4),)))))), "sure\nchoice\nchoice\n1 : none\n5 : 0 to 4")
        great = sure(Meter(*[Exact(FAR - n) for n in (0, 1, 3, 7, 9, 11, 13, 17)]), 1, 0)
        self.same(verdict_text(great).split("\n")[-1], f"{great.tables[0][-1][0]} : 0 to 0")

    def test_errors(self):
        for value in [*ANY, PAIR, Join(()), Shelf(), "sure"]:
            self.raises(BadValue(value), verdict_text, value)


if __name__ == "__main__":
    unittest.main()
