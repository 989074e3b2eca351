"""desk.py: rows of lines against what they stand for."""

import unittest

from desk_helpers import ASKING, PAIR_TEXT, Model, moments, random_line, seen
from helpers import Case, dice
from wheelreach.desk import Desk


class Rows(Case):
    def test_against_what_the_lines_stand_for(self):
        rng = dice(281)
        answers = {}
        for _ in range(150):
            desk, model = Desk(), Model()
            for _ in range(60):
                word, rest, line = random_line(rng, model)
                wanted = getattr(model, word)() if word in ("undo", "redo") else model.say(word, *rest)
                self.same(rng.choice([desk, desk.say])(line), wanted, line)
                answers.setdefault(word, set()).add(wanted)
                self.same(len(desk), len(model.past))
                self.is_as(desk, model)
        for word, found in answers.items():
            refused = {answer for answer in found if answer.startswith("refused")}
            if word not in ("undo", "redo", "shelf", "meter"):
                self.assertTrue(refused, word)
            self.assertTrue(found - refused, word)
        every = {answer for found in answers.values() for answer in found if answer.startswith("refused")}
        for name in ("BadMark", "BadMeter", "BadNumber", "BadShelf", "NoName", "NoPlace", "Nothing", "Unfit", "TooMany",
                     "BadFollower"):
            self.assertIn("refused " + name, every)

    def is_as(self, desk, model):
        self.assertEqual(desk.meter_now(), model.meter)
        self.assertEqual(desk.follower_now(), model.follower)
        self.assertEqual(desk.shelf_now(), model.shelf)

    def test_moments(self):
        rng = dice(282)
        for _ in range(40):
            desk, model = Desk(), Model()
            for _ in range(25):
                word, rest, line = random_line(rng, model)
                ahead = (seen(desk), moments(desk))
                self.same(seen(desk), ahead[0])
                answer = desk(line)
                if word in ("undo", "redo"):
                    getattr(model, word)()
                else:
                    model.say(word, *rest)
                if answer.startswith("refused") or word in ASKING:
                    self.same((seen(desk), moments(desk)), ahead)
                elif word not in ("undo", "redo"):
                    self.same(desk("redo"), "nothing")

    def test_many_lines(self):
        desk = Desk()
        desk(f"meter {PAIR_TEXT}")
        for _ in range(400):
            desk("times 1")
        self.same(len(desk), 401)
        self.same([desk("undo") for _ in range(402)], ["ok"] * 401 + ["nothing"])
        self.same([desk("redo") for _ in range(402)], ["ok"] * 401 + ["nothing"])


if __name__ == "__main__":
    unittest.main()
