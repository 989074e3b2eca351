"""desk.py: each line with each of its words left out, put in, otherwise, and beyond its bounds."""

import unittest

from desk_helpers import FAR, MOST, PAIR_TEXT, moments, seen, started
from helpers import ANY, Case
from wheelreach.desk import Desk
from wheelreach.errors import BadLine


class Words(Case):
    LINES = {
        f"meter {PAIR_TEXT}": (), "meter grid 2 ; off 8 more 8 lost 8": (), "add wheel 5 1 2": (), "add grid 5": (),
        "leave 0 1": (2,), "wider 2": (), "times 3": (), "numbers 1 2 3": (), "follow 5": (), "hear 40 - 7": (2, 3),
        "move -5 -6": (), "put abc 5 wheel 7 1 2": (), "put abc 5 grid 7": (), "drop abc": (), "undo": (), "redo": (),
        "show": (), "shelf": (), "runs": (), "known": (), "exact 5": (), "blind 5": (), "next 5": (), "last 5": (),
        "reach 5": (), "window 5": (), "sure 5 6": (), "told 5 6 7 - 8": (4, 5), "off 5 6 - 7": (3, 4),
        "nearest 5 6 - 7": (3, 4), "choose 5 6 1 2 3": ()}

    def refused_words(self, line, word):
        for desk in (Desk(), started()):
            ahead = (seen(desk), moments(desk))
            self.raises(BadLine(word), desk, line)
            self.raises(BadLine(word), desk.say, line)
            self.same((seen(desk), moments(desk)), ahead)

    def test_each_word(self):
        for line, ends in self.LINES.items():
            words = line.split(" ")
            self.assertIsInstance(started()(line), str)
            for at in range(len(words)):
                for other in ("?", "", "X", "1x", "+1", "01", "-0", "1.0", "1" + "0" * 120):
                    self.refused_words(" ".join([*words[:at], other, *words[at + 1:]]), at)
                self.refused_words(" ".join([*words[:at], "", *words[at:]]), at)
                if at and at not in ends:
                    self.refused_words(" ".join(words[:at]), at)
                elif at:
                    self.assertIsInstance(started()(" ".join(words[:at])), str)
            for more in ("?", "", "x", "-5"):
                self.refused_words(f"{line} {more}", len(words))
            self.refused_words(f" {line}", 0)
            self.refused_words(line.upper() if line != line.upper() else "x", 0)
            self.refused_words(f"{line}\n", len(words) - 1)

    def test_bounds_of_integers(self):
        for line, ends in self.LINES.items():
            words = line.split(" ")
            if words[0] in ("meter", "add", "undo", "redo", "drop") or len(words) == 1:
                continue
            for at in range(1, len(words)):
                if not words[at].lstrip("-").isdigit() or words[0] == "put" and at > 2 or words[0] == "hear":
                    continue
                if words[0] in ("told", "off", "nearest") and at > {"told": 2, "off": 1, "nearest": 1}[words[0]]:
                    continue
                for good in ("0", "1", str(MOST)):
                    self.assertIsInstance(started()(" ".join([*words[:at], good, *words[at + 1:]])), str)
                bad = [str(MOST + 1), "9" * 120]
                if words[0] == "move":
                    self.assertIsInstance(started()(" ".join([*words[:at], str(-MOST), *words[at + 1:]])), str)
                    bad.append(str(-MOST - 1))
                else:
                    bad += ["-1", "-"]
                for other in bad:
                    self.refused_words(" ".join([*words[:at], other, *words[at + 1:]]), at)

    def test_marks(self):
        for head in ("hear", "told 5 6", "off 5", "nearest 5"):
            at = len(head.split(" "))
            for good in ("0", "-", "9" * 120, "- - - - - - - -", " ".join(["9" * 120] * 8)):
                self.assertIsInstance(started()(f"{head} {good}"), str)
            for bad, word in (("1" + "0" * 120, 0), ("1 2 3 4 5 6 7 8 9", 8), ("1 2 3 4 5 6 7 8 ", 8), ("-1", 0),
                              ("--", 0), ("1 /", 1), ("1 , 2", 1), ("", 0), ("1  2", 1), ("00", 0)):
                self.refused_words(f"{head} {bad}", at + word)

    def test_bounds_of_wheels_and_meters(self):
        for head in ("add", "put a 1", "meter"):
            at = len(head.split(" "))
            tail = " ; off 0 more 0 lost 0" if head == "meter" else ""
            for good in ("grid 2", f"grid {FAR}", f"wheel {FAR} {FAR} {FAR}", "wheel 2 0 0"):
                self.same(started()(f"{head} {good}{tail}"), "ok")
            for bad, word in (("grid 1", 1), (f"grid {FAR + 1}", 1), ("wheel 1 0 0", 1), (f"wheel 2 {FAR + 1} 0", 2),
                              (f"wheel 2 0 {FAR + 1}", 3), ("even 5 1", 0), ("wheel", 1), ("grid", 1), ("wheel 5 1 -1", 3)):
                self.refused_words(f"{head} {bad}", at + word)
        eight = " , ".join(["grid 5"] * 8)
        self.same(started()(f"meter {eight} ; off 8 more 8 lost 8"), "ok")
        self.refused_words(f"meter {eight} , grid 5 ; off 0 more 0 lost 0", 24)
        for text, word in (("off 9 more 0 lost 0", 5), ("off 0 more 9 lost 0", 7), ("off 0 more 0 lost 9", 9),
                           ("off 0 more 0 lost 0 ;", 10), ("off 0 more 0 lost", 9), ("", 4)):
            self.refused_words(f"meter grid 5 ; {text}", word)
        self.refused_words("meter grid 5", 3)
        self.refused_words("meter -", 1)

    def test_names(self):
        for name in ("a", "z", "abcdefgh", "zzzzzzzz"):
            self.same(started()(f"put {name} 1 grid 5"), "ok")
            self.assertIn(started()(f"drop {name}"), ("ok", "refused NoName"))
        for name in ("A", "aB", "a1", "abcdefghi", "-", "1", "a_", "", "a-b", "put "):
            self.refused_words(f"put {name} 1 grid 5", 1 + (name == "put "))
            if name != "put ":
                self.refused_words(f"drop {name}", 1)
        for price in ("-1", "x", "01", str(MOST + 1)):
            self.refused_words(f"put a {price} grid 5", 2)

    def test_places(self):
        self.same(started()("leave " + " ".join(["0"] * 100)), "ok")
        self.refused_words("leave", 1)
        self.refused_words("leave ", 1)
        self.refused_words("leave 0 x", 2)
        self.refused_words("leave 0 1 2 -1", 4)
        self.refused_words(f"leave 0 {MOST + 1}", 2)

    def test_any_values(self):
        for value in [*ANY, b"show", ["show"], ("show",), Desk()]:
            for desk in (Desk(), started()):
                for work in (desk, desk.say, desk.run):
                    self.raises(BadLine(0), work, value)
        for line in ("", " ", "Show", "show\n", "\nshow", "shown", "x show", "meter\n-", "runs\truns"):
            self.refused_words(line, 0)


if __name__ == "__main__":
    unittest.main()
