"""desk.py: the lines of its table, refusals, run, and what it returns."""

import unittest

from desk_helpers import FAR, MOST, PAIR_TEXT, Model, moments, random_line, seen, started
from helpers import ANY, Case, dice
from wheelreach.desk import Desk
from wheelreach.errors import BadLine
from wheelreach.follower import Follower
from wheelreach.meters import Meter
from wheelreach.shelf import Shelf
from wheelreach.wheels import Even, Exact, Grid

PAIR = Meter(Even(100, 1), Even(90, 1))
HEAVY_TEXT = f"wheel {FAR} 1000 0 , wheel {FAR - 1} 0 0 ; off 0 more 0 lost 0"
NEED_METER = ("add grid 5", "leave 0", "wider 0", "times 1", "numbers 0 0 0", "follow 5", "show", "exact 5", "blind 0",
              "next 0", "last 0", "reach 0", "window 1", "sure 1 0", "told 1 0 5", "off 1 5", "nearest 1 5")
NEED_FOLLOWER = ("hear 5", "move 0 0", "runs", "known")
NEED_NOTHING = ("meter grid 5 ; off 0 more 0 lost 0", "put a 1 grid 5", "shelf", "undo", "redo", "choose 1 0 0 0 0")


class Examples(Case):
    def test_examples(self):
        desk = Desk()
        self.same(desk.run(f"meter {PAIR_TEXT}", "reach 2", "sure 898 2", "sure 899 2", "wider 2", "reach 8", "undo",
                           "exact 898"), ['ok', '898', 'sure', 'unsure 0 898 : 99 89', 'ok', '94', 'ok', '98 88'])
        self.same(desk.run("follow 1700", "hear 40 70", "move 0 600", "hear 0 0", "known", "undo", "runs",
                           "told 898 2 40 70", "nearest 898 40 75", "blind 900"),
                  ['ok', '339 to 341 , 1239 to 1241', '339 to 941 , 1239 to 1699', '899 to 901', '-', 'ok',
                   '339 to 941 , 1239 to 1699', 'told 339 341', '2 : 342 to 343 , 437 to 438', 'yes'])
        self.same([desk("hear 40"), desk("leave 0 1"), desk("shelf"), desk("undo"), desk("runs"), len(desk)],
                  ['refused BadMark', 'refused BadMeter', '-', 'ok', '339 to 341 , 1239 to 1241', 3])
        self.raises(BadLine(4), desk, "meter wheel 100 1")
        self.same([desk("redo"), desk("redo"), desk.text_now().split("\n"), Desk.read(desk.text_now()) == desk],
                  ['ok', 'ok', [f'meter {PAIR_TEXT}', 'follower 1700 : 899 to 901', f'by {PAIR_TEXT}', '-'], True])

    def test_at_first(self):
        desk = Desk()
        self.same([len(desk), desk.meter_now(), desk.follower_now(), len(desk.shelf_now()), desk.text_now(), desk.run()],
                  [0, None, None, 0, "meter -\nfollower -\n-", []])
        self.same([desk("undo"), desk("redo"), desk("shelf")], ["nothing", "nothing", "-"])
        self.same(desk.say(line="shelf"), "-")
        self.same(Desk.read(text="meter -\nfollower -\n-") == desk, True)


class Table(Case):
    def test_each_line(self):
        desk = started()
        rows = [
            ("show", PAIR_TEXT), ("shelf", "a 3 : wheel 7 0 0 ; b 4 : wheel 9 0 0 ; d 6 : wheel 100 1 1"),
            ("runs", "339 to 341 , 1239 to 1241"), ("known", "-"), ("exact 898", "98 88"), (f"exact {MOST}", "0 10"),
            ("blind 898", "yes"), ("blind 897", "no"), ("next 2", "898"), ("last 898", "2"), ("last 0", "-1"),
            ("reach 2", "898"), ("window 898", "2"), ("window 899", "898"), ("sure 898 2", "sure"),
            ("sure 899 2", "unsure 0 898 : 99 89"), ("told 898 2 40 70", "told 339 341"),
            ("told 898 1 40 70", "spread 339 341"), ("told 898 2 40 75", "noticed"), ("off 898 40 70", "- / -"),
            ("nearest 898 40 70", "0 : 339 to 341"), ("nearest 898 40 75", "2 : 342 to 343 , 437 to 438"),
            ("choose 60 0 0 0 0", "7 : a b"), ("choose 700 0 0 0 0", "13 : a b d"), ("choose 10000 0 0 0 0", "none"),
            ("add grid 5", "ok"), ("show", "wheel 100 1 1 , wheel 90 1 1 , grid 5 ; off 0 more 0 lost 0"),
            ("leave 0", "ok"), ("show", "wheel 90 1 1 , grid 5 ; off 0 more 0 lost 0"), ("numbers 1 2 3", "ok"),
            ("show", "wheel 90 1 1 , grid 5 ; off 1 more 2 lost 3"), ("wider 4", "ok"),
            ("show", "wheel 90 5 5 , grid 5 ; off 1 more 2 lost 3"), ("times 2", "ok"),
            ("show", "wheel 180 10 10 , grid 10 ; off 1 more 2 lost 3"), ("drop b", "ok"),
            ("shelf", "a 3 : wheel 7 0 0 ; d 6 : wheel 100 1 1"), ("put a 9 grid 4", "ok"),
            ("shelf", "a 9 : grid 4 ; d 6 : wheel 100 1 1"), ("hear 41 71", "340 to 341 , 1240 to 1241"),
            ("move 1 -1", "339 to 340 , 1239 to 1240"), ("move -5 5", "344 to 345 , 1244 to 1245"), ("follow 7", "ok"),
            ("runs", "0 to 6"), ("move 0 -6", "refused BadNumber"), ("move 6 -6", "0 to 0"), ("known", "0"),
            ("undo", "ok"), ("known", "-"), ("redo", "ok"), ("known", "0"), ("redo", "nothing"),
        ]
        for line, wanted in rows:
            self.same(desk(line), wanted, line)

    def test_places_that_are_off(self):
        desk = Desk()
        desk("meter wheel 7 0 0 , wheel 9 0 0 , wheel 11 0 0 , wheel 13 0 0 ; off 1 more 0 lost 0")
        self.same([desk("off 63 1 0 6 11"), desk("off 63 1 5 6 11"), desk("off 9009 1 0 6 11"), desk("off 63 0 0 1 2")],
                  ["1 / 1", "- / -", "- / 0 1 2 3", "refused Unfit"])
        desk("leave 1")
        self.same(desk("off 63 1 - 11"), "refused BadMark")
        desk("numbers 0 0 1")
        self.same(desk("off 51 1 - 11"), "- / -")

    def test_refusals(self):
        desk = started()
        rows = [("add wheel 2 0 0", "ok")] * 6 + [
            ("add wheel 2 0 0", "refused TooMany"), ("leave 8", "refused NoPlace"), (f"leave 0 {MOST}", "refused NoPlace"),
            ("leave 0 1 2 3 4 5 6 7", "refused BadMeter"), (f"wider {FAR + 1}", "refused BadNumber"),
            (f"wider {FAR}", "refused BadWheel"), ("times 0", "refused BadNumber"), (f"times {FAR}", "refused BadWheel"),
            (f"times {MOST}", "refused BadNumber"), ("numbers 9 0 0", "refused BadMeter"),
            (f"numbers 0 {MOST} 0", "refused BadMeter"), ("follow 0", "refused BadFollower"),
            ("hear 40", "refused BadMark"), ("hear 100 0", "refused BadMark"), ("hear 40 -", "refused BadMark"),
            ("hear 0 45", "refused Unfit"), ("hear 1 1 1", "refused BadMark"), ("move 1 -2", "refused BadNumber"),
            (f"move {MOST} -{MOST}", "refused Unfit"), (f"put a {FAR + 1} grid 5", "refused BadShelf"),
            ("drop e", "refused NoName"), ("sure 0 0", "refused BadNumber"), ("window 0", "refused BadNumber"),
            ("told 0 0 1 1 1 1 1 1 1 1", "refused BadNumber"), ("told 5 0 1", "refused BadMark"),
            ("off 5 1", "refused BadMark"), ("off 0 1 1 1 1 1 1 1 1", "refused BadNumber"),
            ("off 5 50 1 0 0 0 0 0 0", "refused Unfit"), ("nearest 5 1", "refused BadMark"),
            ("nearest 0 1 1 1 1 1 1 1 1", "refused BadNumber"), ("choose 0 0 0 0 0", "refused BadNumber"),
            ("choose 1 0 9 0 0", "refused BadMeter"), ("choose 1 0 0 9 0", "refused BadMeter"),
            ("choose 1 0 0 0 9", "refused BadMeter")]
        for line, wanted in rows:
            ahead = None if wanted == "ok" else (seen(desk), moments(desk))
            self.same(desk(line), wanted, line)
            if ahead is not None:
                self.same((seen(desk), moments(desk)), ahead, line)
        desk(f"meter {HEAVY_TEXT}")
        for line in ("next 0", "last 0", "reach 0", "window 1", "sure 1 0"):
            self.same(desk(line), "refused TooMany")
        self.same(desk("blind 5"), "no")
        self.same(desk("put b 1 wheel 1000000000000 1000 0"), "ok")
        desk("put d 1 wheel 999999999999 0 0")
        self.same(desk("choose 1 0 0 0 0"), "refused TooMany")
        for letter in "efghi":
            self.same(desk(f"put {letter} 1 grid 5"), "ok")
        self.same([desk("put j 1 grid 5"), desk("put a 1 grid 5")], ["refused TooMany", "ok"])

    def test_without_a_meter_and_without_a_follower(self):
        desk = Desk()
        for line in NEED_METER + NEED_FOLLOWER:
            self.same((desk(line), len(desk)), ("refused Nothing", 0), line)
        # ahead of what else would be refused
        for line in ("leave 9", "wider 9999999999999", "times 0", "numbers 9 9 9", "follow 0", "window 0", "sure 0 0",
                     "told 0 0 1", "off 0 1", "nearest 0 1", "hear 1 2 3", "move 0 -1", f"reach {MOST}"):
            self.same(desk(line), "refused Nothing")
        # but not ahead of what no line is
        for line, word in (("leave", 1), ("follow x", 1), ("hear", 1), ("show 1", 1), ("told 1 0", 3)):
            self.raises(BadLine(word), desk, line)
        for line in NEED_NOTHING:
            self.assertNotEqual(desk(line), "refused Nothing")
        desk(f"meter {PAIR_TEXT}")
        for line in NEED_FOLLOWER:
            self.same(desk(line), "refused Nothing")
        desk("follow 9")
        desk("undo")
        self.same(desk("runs"), "refused Nothing")
        desk("redo")
        # the follower needs no meter of the desk
        text = desk.text_now().split("\n")
        other = Desk.read("\n".join(["meter -", *text[1:]]))
        self.same([other("runs"), other("show"), other("hear 5 5"), other("follow 5")],
                  ["0 to 8", "refused Nothing", "4 to 6", "refused Nothing"])


class Run(Case):
    def test_a_bad_line_at_each_place(self):
        lines = ["wider 1", "undo", "redo", "put e 1 grid 5", "drop a", "drop zz", "follow 9", "move 0 0", "undo", "undo",
                 "show"]
        for at in range(len(lines) + 1):
            for bad, word in ((None, 0), ("show me", 1), ("", 0), (7, 0), ("hear", 1), ("move 1", 2)):
                desk = started()
                for line in ("undo", "undo"):
                    desk(line)
                ahead = (seen(desk), moments(desk))
                self.raises(BadLine(word), desk.run, *lines[:at], bad, *lines[at:])
                self.same((seen(desk), moments(desk)), ahead)
                self.raises(BadLine(word), desk.run, *lines[:at], bad, None, *lines[at:])
                self.same(len(desk), 4)

    def test_answers(self):
        rng = dice(283)
        for _ in range(40):
            lines = [random_line(rng, Model())[2] for _ in range(20)]
            one, other = started(), started()
            found = one.run(*lines)
            self.same(found, [other(line) for line in lines])
            self.same((one == other, seen(one), moments(one)), (True, seen(other), moments(other)))
            found.append("x")

    def test_refused_lines_are_no_bad_lines(self):
        desk = started()
        self.same(desk.run("leave 9", "wider 1", "hear 0 45", "shelf")[:3], ["refused NoPlace", "ok", "refused Unfit"])
        self.same(len(desk), 7)


class Apart(Case):
    def test_what_is_returned_goes_its_own_way(self):
        desk = started()
        text = desk.text_now()
        follower, shelf, meter = desk.follower_now(), desk.shelf_now(), desk.meter_now()
        self.same((type(follower), type(shelf), type(meter)), (Follower, Shelf, Meter))
        self.same((follower.deeds, shelf.can_undo, shelf.can_redo), ((), 0, 0))
        follower.move(3, 4)
        follower.reach = 900
        shelf.drop("a")
        shelf["z"] = (Grid(5), 1)
        self.same(desk.text_now(), text)
        desk("move 0 5")
        desk("drop b")
        self.same((follower.runs[0], "b" in shelf), ((336, 345), True))
        self.same((desk.follower_now() == desk.follower_now(), desk.shelf_now() == desk.shelf_now()), (True, True))

    def test_a_meter_that_is_changed_later(self):
        desk = started()
        desk.run("undo", "undo", "undo", "undo", "wider 5", "times 3", "leave 0")
        self.same((str(desk.follower_now().meter), desk("hear 40 70")), (PAIR_TEXT, "339 to 341 , 1239 to 1241"))
        self.same(desk("show"), "wheel 270 18 18 ; off 0 more 0 lost 0")
        self.same(desk("told 270 30 50"), "spread 32 68")
        desk("follow 100")
        self.same(str(desk.follower_now().meter), "wheel 270 18 18 ; off 0 more 0 lost 0")
        desk("undo")
        self.same((str(desk.follower_now().meter), desk("runs")), (PAIR_TEXT, "339 to 341 , 1239 to 1241"))

    def test_equal(self):
        self.same([Desk() == Desk(), started() == started(), Desk() == started(), Desk() != Desk()],
                  [True, True, False, False])
        one, other = started(), started()
        for line in ("wider 1", "follow 5", "move 1 -1", "put a 4 wheel 7 0 0", "drop a", "numbers 0 0 1"):
            self.same((one(line).startswith("refused"), one == other, other == one), (False, False, False))
            # what can be taken back does not count
            other(line)
            other("undo")
            other("redo")
            self.same(one == other, True)
        one.run("wider 0", "times 1")
        self.same((one == other, len(one) == len(other)), (True, False))
        for value in [*ANY, PAIR, Shelf(), one.text_now()]:
            self.same((one == value, Desk() == value, value == Desk()), (False, False, False))
        lone = Desk()
        lone("put a 1 grid 5")
        self.same(lone == Desk(), False)
        lone("drop a")
        self.same(lone == Desk(), True)
        # the same wheels by other classes
        self.same(Desk.read("meter wheel 5 0 0 ; off 0 more 0 lost 0\nfollower -\n-").meter_now() == Meter(Exact(5)), True)


if __name__ == "__main__":
    unittest.main()
