"""reader.py: each text is read back; what cannot stand in it is told by its line and its word."""

import unittest

from helpers import ANY, Case, alike, dice
from meter_helpers import random_meter
from reading_helpers import random_reading
from test_design import FOUR, random_shelf, shelf_of
from wheelreach.errors import BadText, Nothing
from wheelreach.meters import Meter
from wheelreach.reader import read_reading, read_shelf, read_verdict
from wheelreach.reaches import Sure, Unsure, pair_at, sure
from wheelreach.shelf import Shelf
from wheelreach.texts import reading_text, shelf_text, verdict_text
from wheelreach.wheels import Even, Exact, Grid, Wheel

FAR = 10 ** 12
PAIR = Meter(Even(100, 1), Even(90, 1))
DIGITS = "9" * 120
NO_NUMBERS = ("", "x", "+1", "01", "1.0", "1e3", "-0", "-1", "1" + "0" * 120, "one", "1\t", "1_0", "--")


class TextCase(Case):
    """rows are the lines of a right text, each a list of words."""

    def text(self, rows):
        return "\n".join([" ".join(row) for row in rows])

    def changed(self, rows, line, row):
        return self.text([*rows[:line], row, *rows[line + 1:]])

    def spoil(self, read, rows, line, word, *bad):
        """Each of these cannot stand in the place of a word."""
        row = rows[line]
        for other in bad:
            text = self.changed(rows, line, [*row[:word], other, *row[word + 1:]])
            self.raises(BadText(line, word), read, text)

    def lets(self, read, write, rows, line, word, *good):
        """Each of these can stand in the place of a word, and is read back."""
        row = rows[line]
        for other in good:
            text = self.changed(rows, line, [*row[:word], other, *row[word + 1:]])
            self.same(write(read(text)), text)

    def spoil_all(self, read, rows, ends=()):
        """Each word otherwise, left out at the end, or with one more ahead of it; ends are words a line can end ahead of."""
        for line, row in enumerate(rows):
            for word in range(len(row)):
                self.spoil(read, rows, line, word, "?", "", "  ", "x1", "-1", "00")
                self.raises(BadText(line, word), read, self.changed(rows, line, [*row[:word], "", *row[word:]]))
                if (line, word) not in ends and word:
                    self.raises(BadText(line, word), read, self.changed(rows, line, row[:word]))
            for more in ("?", "", "x1", "-2"):
                self.raises(BadText(line, len(row)), read, self.changed(rows, line, [*row, more]))
            self.raises(BadText(line, 0), read, self.changed(rows, line, [""]))

    def no_texts(self, read):
        for value in ANY:
            if not isinstance(value, str):
                self.raises(BadText(0, 0), read, value)
        for value in (b"1", [40, 7], PAIR, FOUR):
            self.raises(BadText(0, 0), read, value)


class Examples(Case):
    def test_examples(self):
        self.same(read_reading("40 - 7"), (40, None, 7))
        self.raises(BadText(2, 0), read_verdict, "unsure 0 898\nmarks 99 89")
        self.raises(BadText(0, 1), read_reading, "40 x")
        self.same(read_reading(text="1"), (1,))
        self.same(read_shelf(text="-") == Shelf(), True)
        self.same(read_verdict(text="sure\nchoice") == Sure(((),)), True)


class Readings(TextCase):
    def test_back_and_forth(self):
        rng = dice(271)
        for _ in range(200):
            marks = random_reading(rng, random_meter(rng, 8, 10 ** 6))
            self.same(read_reading(reading_text(marks)), marks)
        for marks in ((0,), (None,), (None,) * 8, (10 ** 120 - 1, 0), tuple(range(8))):
            self.same(read_reading(reading_text(marks)), marks)

    def test_words(self):
        words = "40 - 7 0 1 2 3 4".split(" ")
        for at in range(8):
            self.spoil(read_reading, [words], 0, at, *NO_NUMBERS, "/", ",")
            self.lets(read_reading, reading_text, [words], 0, at, "0", "-", DIGITS)
            if at:
                self.same(read_reading(" ".join(words[:at])), (40, None, 7, 0, 1, 2, 3, 4)[:at])
        for more in ("5", "-", "", "x"):
            self.raises(BadText(0, 8), read_reading, " ".join([*words, more]))
        for text, at in (("", 0), (" ", 0), (" 1", 0), ("1 ", 1), ("1  2", 1), ("1\t2", 0)):
            self.raises(BadText(0, at), read_reading, text)

    def test_lines(self):
        for more in ("", "4", "40 7", "x"):
            self.raises(BadText(1, 0), read_reading, "40 7\n" + more)
            self.raises(BadText(1, 0), read_reading, "40 7\n" + more + "\n")
        self.raises(BadText(0, 1), read_reading, "40 x\n7")
        self.raises(BadText(0, 8), read_reading, "1 1 1 1 1 1 1 1 1\n7")
        self.raises(BadText(0, 0), read_reading, "\n40")

    def test_any_values(self):
        self.no_texts(read_reading)
        for value in [value for value in ANY if isinstance(value, str)]:
            if value == "1":
                self.same(read_reading(value), (1,))
            else:
                self.raises(BadText(0, 0), read_reading, value)


class Shelves(TextCase):
    def test_back_and_forth(self):
        rng = dice(272)
        for _ in range(150):
            shelf = random_shelf(rng, 40)
            found = read_shelf(shelf_text(shelf))
            self.same((type(found), found == shelf, shelf_text(found)), (Shelf, True, shelf_text(shelf)))
            self.same((found.can_undo, found.can_redo), (0, 0))
            self.raises(Nothing(), found.undo)
            self.raises(Nothing(), found.redo)
        eight = shelf_of(**{letter: (Exact(7), 1) for letter in "abcdefgh"})
        self.same(read_shelf(shelf_text(eight)) == eight, True)

    def test_words(self):
        rows = [["a", "3", ":", "wheel", "7", "0", "1"], ["ab", "0", ":", "grid", "12"],
                ["c", str(FAR), ":", "wheel", str(FAR), str(FAR), str(FAR)]]
        self.same(shelf_text(read_shelf(self.text(rows))), self.text(rows))
        self.spoil_all(read_shelf, rows)
        for line in range(3):
            self.spoil(read_shelf, rows, line, 0, "A", "aB", "a1", "abcdefghi", "3", "wheel7", *["-"][:line])
            self.spoil(read_shelf, rows, line, 1, *NO_NUMBERS, str(FAR + 1), "-")
            self.lets(read_shelf, shelf_text, rows, line, 1, "0", str(FAR))
            self.spoil(read_shelf, rows, line, 2, ";", "::", ",")
            self.spoil(read_shelf, rows, line, 3, "Wheel", "grids", "exact", ":")
            self.spoil(read_shelf, rows, line, 4, *NO_NUMBERS, "0", "1", str(FAR + 1))
            self.lets(read_shelf, shelf_text, rows, line, 4, "2", str(FAR))
        for line in (0, 2):
            for word in (5, 6):
                self.spoil(read_shelf, rows, line, word, *NO_NUMBERS, str(FAR + 1))
                self.lets(read_shelf, shelf_text, rows, line, word, "0", str(FAR))

    def test_names_ascend(self):
        rows = [["b", "3", ":", "grid", "7"], ["bb", "3", ":", "grid", "7"], ["d", "3", ":", "grid", "7"]]
        self.spoil(read_shelf, rows, 1, 0, "a", "b", "ab", "aaaaaaaa")
        self.spoil(read_shelf, rows, 2, 0, "b", "bb", "ba", "a", "baaaaaaa")
        self.lets(read_shelf, shelf_text, rows, 1, 0, "ba", "c", "bzzzzzzz")
        self.lets(read_shelf, shelf_text, rows, 2, 0, "bba", "zzzzzzzz")

    def test_lines(self):
        row = "{} 1 : grid 5"
        eight = "\n".join(row.format(name) for name in "abcdefgh")
        self.same(len(read_shelf(eight)), 8)
        for more in (row.format("i"), "", "-", "x"):
            self.raises(BadText(8, 0), read_shelf, f"{eight}\n{more}")
        for more in ("", "-", "A", " "):
            self.raises(BadText(1, 0), read_shelf, f"{row.format('a')}\n{more}")
        for more in ("", "-", row.format("a")):
            self.raises(BadText(1, 0), read_shelf, f"-\n{more}")
        for more in ("", "-", "x"):
            self.raises(BadText(0, 1), read_shelf, f"- {more}")
        self.raises(BadText(0, 0), read_shelf, "")
        self.raises(BadText(0, 0), read_shelf, "\n-")
        self.raises(BadText(0, 3), read_shelf, "a 1 :\nb 1 : grid 5")
        self.raises(BadText(0, 5), read_shelf, "a 1 : grid 5 , \nb 1 : grid 5")

    def test_any_values(self):
        self.no_texts(read_shelf)
        for value in [value for value in ANY if isinstance(value, str)]:
            with self.assertRaises(BadText):
                read_shelf(value)


class Verdicts(TextCase):
    def test_back_and_forth(self):
        rng = dice(273)
        seen = {True: 0, False: 0}
        for _ in range(200):
            meter = random_meter(rng, 5, 12)
            for found in (sure(meter, rng.randint(1, 40), rng.randint(0, 5)), sure(meter, 10 ** 50, 3), sure(meter, 1, 0)):
                text = verdict_text(found)
                self.same((read_verdict(text) == found, verdict_text(read_verdict(text))), (True, text))
                self.assertIs(type(read_verdict(text)), type(found))
                self.assertTrue(all(alike(value, vars(read_verdict(text))[name]) for name, value in vars(found).items()))
                seen[bool(found)] += 1
        self.assertGreater(min(seen.values()), 100)
        for found in (pair_at(PAIR, 898), sure(Meter(*[Exact(FAR - n) for n in (0, 1, 3, 7, 9, 11, 13, 17)]), 1, 0),
                      sure(Meter(Even(3, 1), Grid(4)), 1, 0), sure(Meter(Exact(5), lost=1), 1, 0),
                      Sure(((), ((1, ()),), ())), Unsure(10 ** 120 - 1, 0, (None,), (), (0, 7))):
            self.same(read_verdict(verdict_text(found)) == found, True)

    def test_words_of_an_unsure(self):
        rows = [["unsure", "0", "898"], ["marks", "99", "-", "7"], ["off", "0", "2", "/", "1", "5", "7"]]
        self.same(verdict_text(read_verdict(self.text(rows))), self.text(rows))
        ends = [(1, 2), (1, 3), (2, 5), (2, 6)]
        self.spoil_all(read_verdict, rows, ends)
        for line, word in ends:
            text = self.changed(rows, line, rows[line][:word])
            self.same(verdict_text(read_verdict(text)), text)
        for word in (1, 2):
            self.spoil(read_verdict, rows, 0, word, *NO_NUMBERS, "-")
            self.lets(read_verdict, verdict_text, rows, 0, word, "0", DIGITS)
        for word in (1, 2, 3):
            self.spoil(read_verdict, rows, 1, word, *NO_NUMBERS, "/")
            self.lets(read_verdict, verdict_text, rows, 1, word, "0", "-", DIGITS)
        self.spoil(read_verdict, rows, 0, 0, "Unsure", "marks", "choice", "told")
        self.spoil(read_verdict, rows, 1, 0, "off", "choice", "unsure")
        self.spoil(read_verdict, rows, 2, 0, "marks", "sure", "-")
        self.raises(BadText(1, 9), read_verdict, self.changed(rows, 1, ["marks"] + ["1"] * 9))
        self.raises(BadText(1, 1), read_verdict, self.changed(rows, 1, ["marks"]))

    def test_places(self):
        head = "unsure 0 898\nmarks 99 89\n"
        for text in ("off - / -", "off 0 / -", "off - / 7", "off 0 1 2 3 4 5 6 7 / 0 1 2 3 4 5 6 7", "off 7 / 7"):
            self.same(verdict_text(read_verdict(head + text)), head + text)
        for text, word in (("off - -", 2), ("off / -", 1), ("off -", 2), ("off", 1), ("off 0 /", 3), ("off - /", 3),
                           ("off 8 / -", 1), ("off - / 8", 3), ("off 1 0 / -", 2), ("off 1 1 / -", 2), ("off 0 0 / -", 2),
                           ("off - / 1 1", 4), ("off - / 2 1", 4), ("off - 0 / -", 2), ("off 0 - / -", 2),
                           ("off - / - 0", 4), ("off - / 0 -", 4), ("off - / 0 /", 4), ("off - / - /", 4),
                           ("off 00 / -", 1), ("off -0 / -", 1), ("off 0 7 8 / -", 3), ("off 7 8 / -", 2),
                           ("off - / 6 7 8", 5), ("off 0 2 1 / -", 3), ("off - / 1 4 3", 5), ("off - / 7 7", 4), ("off 0  / -", 2), ("off - / - ", 4)):
            self.raises(BadText(2, word), read_verdict, head + text)

    def test_words_of_a_sure(self):
        rows = [["sure"], ["choice"], ["4", ":", "0", "to", "0", ",", "2", "to", "2"], ["1", ":", "none"], ["choice"],
                ["choice"], ["10", ":", "3", "to", "8"]]
        self.same(verdict_text(read_verdict(self.text(rows))), self.text(rows))
        self.spoil_all(read_verdict, rows, [(2, 5)])
        text = self.changed(rows, 2, rows[2][:5])
        self.same(verdict_text(read_verdict(text)), text)
        self.spoil(read_verdict, rows, 1, 0, "sure", "4", "-", "none", "marks")
        for line in (2, 3, 6):
            self.spoil(read_verdict, rows, line, 0, *NO_NUMBERS, "0", "none", "choices", "-")
            self.lets(read_verdict, verdict_text, rows, line, 0, "1", DIGITS)
            self.spoil(read_verdict, rows, line, 1, ",", "to", ";")
        self.lets(read_verdict, verdict_text, rows, 2, 2, "0")
        self.spoil(read_verdict, rows, 2, 2, *NO_NUMBERS, "-")
        # an end is from its begin on, a begin at least 2 above the end ahead of it
        self.lets(read_verdict, verdict_text, rows, 6, 4, "3", "4", "10", DIGITS)
        self.spoil(read_verdict, rows, 6, 4, "2", "0", "none", *NO_NUMBERS)
        self.lets(read_verdict, verdict_text, rows, 6, 2, "0", "8", "7")
        self.raises(BadText(6, 4), read_verdict, self.changed(rows, 6, ["10", ":", "9", "to", "8"]))
        self.spoil(read_verdict, rows, 2, 6, "0", "1", "none", "to", *NO_NUMBERS)
        self.raises(BadText(2, 8), read_verdict, self.changed(rows, 2, "4 : 0 to 0 , 3 to 2".split(" ")))
        self.lets(read_verdict, verdict_text, rows, 2, 4, "0")
        self.raises(BadText(2, 6), read_verdict, self.changed(rows, 2, "4 : 0 to 1 , 2 to 2".split(" ")))
        for row, word in (("4 : none none", 3), ("4 : none , 0 to 0", 3), ("4 : 0 to 0 , none", 6), ("4 : 0 to 0 ,", 6),
                          ("4 : 0 to 0 0 to 0", 5), ("4", 1), ("4 :", 2), ("4 : 0", 3), ("4 : 0 to", 4),
                          ("4 : 0 to 0 , 2", 7), ("choice 4 : none", 1), ("choice ", 1)):
            self.raises(BadText(2, word), read_verdict, self.changed(rows, 2, row.split(" ")))

    def test_many_runs(self):
        runs = tuple((2 * n, 2 * n) for n in range(3000))
        paper = Sure((((10 ** 4, runs),),))
        self.same(read_verdict(verdict_text(paper)) == paper, True)

    def test_lines(self):
        right = verdict_text(sure(PAIR, 899, 2))
        lines = right.split("\n")
        for many in (1, 2):
            self.raises(BadText(many, 0), read_verdict, "\n".join(lines[:many]))
        for more in ("", "off - / -", "choice", "x"):
            self.raises(BadText(3, 0), read_verdict, f"{right}\n{more}")
        for first in range(3):
            self.raises(BadText(first, 0), read_verdict, "\n".join(lines[:first] + lines[first + 1:] + lines[:1]))
        self.raises(BadText(1, 0), read_verdict, "sure")
        self.raises(BadText(1, 0), read_verdict, "sure\n")
        self.raises(BadText(1, 0), read_verdict, "sure\n4 : none")
        self.raises(BadText(2, 0), read_verdict, "sure\nchoice\n")
        self.raises(BadText(2, 0), read_verdict, "sure\nchoice\nsure")
        self.raises(BadText(0, 1), read_verdict, "sure choice")
        self.raises(BadText(0, 3), read_verdict, "unsure 0 898 marks 99")
        self.raises(BadText(0, 2), read_verdict, "unsure 0\nmarks 99")
        self.raises(BadText(0, 0), read_verdict, "")
        self.raises(BadText(0, 0), read_verdict, "\n" + right)
        self.raises(BadText(1, 0), read_verdict, right.replace("\n", "\n\n"))

    def test_any_values(self):
        self.no_texts(read_verdict)
        for value in [sure(PAIR, 899, 2), sure(PAIR, 898, 2)]:
            self.raises(BadText(0, 0), read_verdict, value)
        for value in [value for value in ANY if isinstance(value, str)]:
            self.raises(BadText(0, 0), read_verdict, value)


if __name__ == "__main__":
    unittest.main()
