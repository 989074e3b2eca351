"""desk.py: text_now and Desk.read back and forth, and texts that are spoiled in each word and line."""

import unittest

from desk_helpers import FAR, MOST, PAIR_TEXT, Model, moments, random_line, seen, started
from helpers import ANY, dice
from test_reader import NO_NUMBERS, TextCase
from wheelreach.desk import Desk
from wheelreach.errors import BadText
from wheelreach.follower import Follower
from wheelreach.meters import Meter
from wheelreach.shelf import Shelf
from wheelreach.wheels import Exact

SMALL = "grid 5 ; off 0 more 0 lost 0"


class BackAndForth(TextCase):
    def test_desks(self):
        rng = dice(291)
        lacking = {}
        for _ in range(60):
            desk, model = Desk(), Model()
            for _ in range(25):
                word, rest, line = random_line(rng, model)
                if word in ("undo", "redo"):
                    getattr(model, word)()
                else:
                    model.say(word, *rest)
                desk(line)
                text = desk.text_now()
                found = Desk.read(text)
                self.same((type(found), found == desk, found.text_now(), len(found)), (Desk, True, text, 0))
                self.same((found("undo"), found("redo"), found == desk), ("nothing", "nothing", True))
                lack = (desk.meter_now() is None, desk.follower_now() is None, not desk.shelf_now())
                lacking[lack] = lacking.get(lack, 0) + 1
        self.assertGreaterEqual(len(lacking), 6)

    def test_form(self):
        self.same(started().text_now().split("\n"),
                  [f"meter {PAIR_TEXT}", "follower 1700 : 339 to 341 , 1239 to 1241", f"by {PAIR_TEXT}",
                   "a 3 : wheel 7 0 0", "b 4 : wheel 9 0 0", "d 6 : wheel 100 1 1"])
        desk = started()
        desk.run("wider 1", "drop a", "drop b", "drop d")
        self.same(desk.text_now().split("\n"), ["meter wheel 100 2 2 , wheel 90 2 2 ; off 0 more 0 lost 0",
                                                "follower 1700 : 339 to 341 , 1239 to 1241", f"by {PAIR_TEXT}", "-"])

    def test_what_is_read_goes_its_own_way(self):
        desk = started()
        text = desk.text_now()
        other = Desk.read(text)
        other.run("wider 1", "move 1 1", "drop a")
        self.same((desk.text_now(), len(other), len(desk), other == desk), (text, 3, 6, False))
        other.run("undo", "undo", "undo")
        self.same((other == desk, seen(other) == (text, 0), len(moments(other))), (True, True, 3))

    def test_great_reaches(self):
        desk = Desk.read(f"meter -\nfollower {MOST} : 0 to {MOST - 1}\nby {SMALL}\n-")
        self.same((desk("runs"), desk.follower_now() == Follower(Meter.read(SMALL), MOST)),
                  (f"0 to {MOST - 1}", True))
        runs = " , ".join(f"{2 * n} to {2 * n}" for n in range(500))
        desk = Desk.read(f"meter -\nfollower 999 : {runs}\nby {SMALL}\n-")
        self.same((len(desk.follower_now()), desk("runs")), (500, runs))


class Spoiled(TextCase):
    def setUp(self):
        self.rows = [row.split(" ") for row in (
            "meter wheel 100 1 1 , grid 90 ; off 0 more 1 lost 2", "follower 20 : 3 to 5 , 9 to 19",
            "by grid 5 ; off 0 more 0 lost 0", "a 3 : wheel 7 0 0", "b 4 : grid 9")]

    def write(self, desk):
        return desk.text_now()

    def test_each_word(self):
        self.same(Desk.read(self.text(self.rows)).text_now(), self.text(self.rows))
        self.spoil_all(Desk.read, self.rows, [(1, 6)])
        self.lets(Desk.read, self.write, [*self.rows[:1], self.rows[1][:6], *self.rows[2:]], 1, 5, "5")

    def test_meters(self):
        self.lets(Desk.read, self.write, self.rows, 0, 2, "2", str(FAR))
        self.spoil(Desk.read, self.rows, 0, 2, *NO_NUMBERS, "1", str(FAR + 1))
        self.lets(Desk.read, self.write, self.rows, 0, 12, "0", "8")
        self.spoil(Desk.read, self.rows, 0, 12, *NO_NUMBERS, "9")
        self.lets(Desk.read, self.write, self.rows, 2, 5, "0", "8")
        self.spoil(Desk.read, self.rows, 2, 5, *NO_NUMBERS, "9")
        self.spoil(Desk.read, self.rows, 2, 1, "-", "none", "even")
        self.spoil(Desk.read, self.rows, 2, 0, "meter", "follower", "a", "-")
        for row, word in (("meter", 1), ("meter - -", 2), ("meter - ;", 2), (f"meter {SMALL} ;", 10), ("meter none", 1)):
            self.raises(BadText(0, word), Desk.read, self.changed(self.rows, 0, row.split(" ")))
        self.same(Desk.read(self.changed(self.rows, 0, ["meter", "-"])).meter_now(), None)

    def test_followers(self):
        self.lets(Desk.read, self.write, self.rows, 1, 1, "20", "21", str(MOST))
        self.spoil(Desk.read, self.rows, 1, 1, *NO_NUMBERS, "0", str(MOST + 1))
        # a smaller reach: an end beyond it, then a begin
        for reach, word in ((19, 9), (10, 9), (9, 7), (6, 7), (5, 5), (4, 5), (3, 3), (1, 3)):
            self.raises(BadText(1, word), Desk.read,
                        self.changed(self.rows, 1, f"follower {reach} : 3 to 5 , 9 to 19".split(" ")))
        self.lets(Desk.read, self.write, self.rows, 1, 3, "0", "5")
        self.spoil(Desk.read, self.rows, 1, 3, *NO_NUMBERS, "20", "none")
        self.lets(Desk.read, self.write, self.rows, 1, 5, "3", "7")
        self.spoil(Desk.read, self.rows, 1, 5, *NO_NUMBERS, "2", "20")
        self.raises(BadText(1, 7), Desk.read, self.changed(self.rows, 1, "follower 20 : 3 to 8 , 9 to 19".split(" ")))
        self.lets(Desk.read, self.write, self.rows, 1, 7, "7", "19")
        self.spoil(Desk.read, self.rows, 1, 7, *NO_NUMBERS, "6", "5", "3", "20")
        self.lets(Desk.read, self.write, self.rows, 1, 9, "9", "18")
        self.spoil(Desk.read, self.rows, 1, 9, *NO_NUMBERS, "8", "20")
        for row, word in (("follower", 1), ("follower - -", 2), ("follower 20", 2), ("follower 20 :", 3),
                          ("follower 20 : none", 3), ("follower 20 : 3 to 5 ,", 7), ("follower 20 : 0 to 19 ,", 7),
                          ("follower 20 : 0 to 19 , 21 to 22", 7), ("follower 20 : 3 to 5 ;", 6), ("follower none", 1),
                          ("follower -5", 1)):
            self.raises(BadText(1, word), Desk.read, self.changed(self.rows, 1, row.split(" ")))
        lone = self.text([self.rows[0], ["follower", "-"], *self.rows[3:]])
        self.same((Desk.read(lone).follower_now(), Desk.read(lone).text_now()), (None, lone))
        # without a follower the third line is that of a name
        text = self.text([self.rows[0], ["follower", "-"], *self.rows[2:]])
        self.raises(BadText(2, 1), Desk.read, text)
        self.same(Desk.read(self.text([self.rows[0], ["follower", "-"], "by 1 : grid 5".split(" ")])).text_now()[-13:],
                  "by 1 : grid 5")

    def test_a_comma_behind_the_last_run(self):
        runs = " , ".join(f"{2 * n} to {2 * n}" for n in range(500))
        self.raises(BadText(1, 3 + 4 * 500 - 1), Desk.read, f"meter -\nfollower 5000 : {runs} ,\nby {SMALL}\n-")
        self.raises(BadText(1, 3 + 4 * 500 - 1), Desk.read,
                    f"meter -\nfollower 5000 : {runs} , 1000 to 1000\nby {SMALL}\n-")
        fewer = " , ".join(f"{2 * n} to {2 * n}" for n in range(499))
        self.raises(BadText(1, 3 + 4 * 499), Desk.read, f"meter -\nfollower 997 : {fewer} ,\nby {SMALL}\n-")
        self.same(len(Desk.read(f"meter -\nfollower 999 : {fewer} , 998 to 998\nby {SMALL}\n-").follower_now()), 500)

    def test_shelves(self):
        self.spoil(Desk.read, self.rows, 3, 0, "A", "a1", "abcdefghi")
        self.lets(Desk.read, self.write, self.rows, 3, 0, "aa", "aaaaaaaa")
        self.spoil(Desk.read, self.rows, 4, 0, "a", "A", "-")
        self.lets(Desk.read, self.write, self.rows, 4, 0, "aa", "by", "zzzzzzzz")
        self.spoil(Desk.read, self.rows, 3, 1, *NO_NUMBERS, str(FAR + 1))
        self.lets(Desk.read, self.write, self.rows, 3, 1, "0", str(FAR))
        self.raises(BadText(4, 0), Desk.read, self.text([*self.rows[:3], ["-"], self.rows[4]]))
        self.raises(BadText(3, 1), Desk.read, self.text([*self.rows[:3], ["-", "-"]]))
        eight = [[letter, "1", ":", "grid", "5"] for letter in "abcdefgh"]
        self.same(len(Desk.read(self.text([*self.rows[:3], *eight])).shelf_now()), 8)
        self.raises(BadText(11, 0), Desk.read, self.text([*self.rows[:3], *eight, ["i", "1", ":", "grid", "5"]]))

    def test_lines(self):
        for many in (1, 2, 3):
            self.raises(BadText(many, 0), Desk.read, self.text(self.rows[:many]))
        for many in (4, 5):
            self.same(Desk.read(self.text(self.rows[:many])).text_now(), self.text(self.rows[:many]))
        for first in range(3):
            self.raises(BadText(first, 0), Desk.read, self.text(self.rows[:first] + self.rows[first + 1:]))
        for more in ("", "-", "a", "b 1 : grid 5", "?"):
            self.raises(BadText(5, 0), Desk.read, self.text(self.rows) + "\n" + more)
        self.raises(BadText(0, 0), Desk.read, "")
        self.raises(BadText(0, 0), Desk.read, "\n" + self.text(self.rows))
        self.raises(BadText(1, 0), Desk.read, self.text(self.rows).replace("\n", "\n\n"))
        self.raises(BadText(1, 0), Desk.read, "meter -")
        self.raises(BadText(2, 0), Desk.read, "meter -\nfollower -")
        self.raises(BadText(3, 0), Desk.read, "meter -\nfollower -\n-\n")
        self.raises(BadText(2, 0), Desk.read, f"meter -\nfollower -\nby {SMALL}\n-".replace("by", "BY"))

    def test_any_values(self):
        self.no_texts(Desk.read)
        for value in (Desk(), Shelf(), Meter(Exact(5))):
            self.raises(BadText(0, 0), Desk.read, value)
        for value in [value for value in ANY if isinstance(value, str)]:
            self.raises(BadText(0, 0), Desk.read, value)


if __name__ == "__main__":
    unittest.main()
