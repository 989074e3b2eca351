"""shelf.py: rows of deeds against a dict that is kept beside the shelf, and errors."""

import unittest

from helpers import ANY, Case, dice, is_int, others
from wheelreach.errors import BadDeed, BadMeter, BadShelf, BadWheel, NoName, Nothing, TooMany
from wheelreach.meters import Meter
from wheelreach.shelf import Shelf
from wheelreach.wheels import Even, Exact, Grid, Lagging, Wheel

MOST = 10 ** 12
LETTERS = "abcdefghijklmnopqrstuvwxyz"
WHEELS = [Exact(7), Even(100, 1), Grid(4), Lagging(9, 2), Wheel(MOST, MOST, 0), Wheel(2, 0, MOST)]


def is_name(value):
    return isinstance(value, str) and 1 <= len(value) <= 8 and all(letter in LETTERS for letter in value)


NO_NAMES = others(is_name) + ["A", "aB", "a1", "a b", "a\n", "\n", "-", "abcdefghi", "a_b", ("a",), ["a"], {"a": 1},
                              Exact(5), Shelf(), "a" * 3000]
NO_PRICES = others(lambda value: is_int(value) and 0 <= value <= MOST) + [-1, MOST + 1, 1.0, "3"]
NO_WHEELS = [*ANY, Wheel, Meter(Exact(5)), "wheel 7 0 0"]
GOOD = (Exact(7), 3)


def stocked(*rows):
    shelf = Shelf()
    shelf.stock(*rows)
    return shelf


def full():
    return stocked(*[(letter, Exact(at + 2), at) for at, letter in enumerate("abcdefgh")])


def all_of(shelf):
    """All that can be seen of a shelf."""
    return ([(name, *shelf[name]) for name in shelf], len(shelf), shelf.can_undo, shelf.can_redo)


def through(shelf):
    """What a shelf can undo and redo, moment by moment; it is as it was behind this."""
    seen = []
    undone = 0
    while shelf.can_undo:
        shelf.undo()
        undone += 1
        seen.append(all_of(shelf))
    while shelf.can_redo:
        shelf.redo()
        seen.append(all_of(shelf))
    while shelf.can_undo > undone:
        shelf.undo()
    return seen


class Unchanged(Case):
    def refused(self, shelf, wanted, work, *args, **more):
        """The error, that the shelf is as it was, and so are all its moments."""
        ahead, moments = all_of(shelf), through(shelf)
        self.assertEqual(all_of(shelf), ahead)
        self.raises(wanted, work, *args, **more)
        self.assertEqual((all_of(shelf), through(shelf)), (ahead, moments))


class Examples(Case):
    def test_examples(self):
        shelf = Shelf()
        shelf["a"] = (Exact(7), 3)
        self.same(shelf.stock(("c", Exact(11), 5), ("b", Exact(9), 4), ("d", Even(100, 1), 6)), None)
        self.same([list(shelf), shelf["b"][1], "e" in shelf, shelf.cost("b", "d"),
                   str(shelf.chosen("d", "a", lost=1)), shelf.can_undo],
                  [['a', 'b', 'c', 'd'], 4, False, 10, 'wheel 100 1 1 , wheel 7 0 0 ; off 0 more 0 lost 1', 2])
        self.raises(BadWheel("period"), lambda: shelf.stock(("e", Exact(5), 1), ("f", Exact(1), 1)))
        self.raises(BadDeed(1), shelf.stock, ("e", Exact(5), 1), ("f", None, 1))
        twin = shelf.twin()
        shelf.undo()
        self.same([len(shelf), len(twin), shelf.can_redo, "e" in twin, shelf == twin], [1, 4, 1, False, False])
        shelf.redo()
        self.same([shelf == twin, shelf.can_undo, twin.can_undo], [True, 2, 0])
        self.raises(NoName("x1"), lambda: shelf["x1"])

    def test_at_first(self):
        shelf = Shelf()
        self.same([len(shelf), list(shelf), shelf.can_undo, shelf.can_redo, shelf.cost(), bool(shelf)],
                  [0, [], 0, 0, 0, False])


class Deeds(Unchanged):
    def one_deed(self, rng, shelf, beside):
        """Does something to the shelf and to the dict beside it, refused or not; tells whether it was a deed."""
        kind = rng.choice(["set", "set", "drop", "stock", "bad"])
        names = ["a", "b", "c", "dd", "e", "f", "ggg", "h", "i", "zzzzzzzz"]
        if kind == "set":
            name, item = rng.choice(names), (rng.choice(WHEELS), rng.randint(0, 9))
            if name not in beside and len(beside) == 8:
                self.refused(shelf, TooMany("names", 8), shelf.__setitem__, name, item)
                return False
            shelf[name] = item
            beside[name] = item
        elif kind == "drop":
            name = rng.choice(names)
            if name not in beside:
                self.refused(shelf, NoName(name), shelf.drop, name)
                return False
            self.same(shelf.drop(name), None)
            del beside[name]
        elif kind == "stock":
            rows = [(rng.choice(names), rng.choice(WHEELS), rng.randint(0, 9)) for _ in range(rng.randint(0, 4))]
            other = dict(beside)
            for at, (name, wheel, price) in enumerate(rows):
                if name not in other and len(other) == 8:
                    self.refused(shelf, BadDeed(at), shelf.stock, *rows)
                    return False
                other[name] = (wheel, price)
            shelf.stock(*rows)
            beside.clear()
            beside.update(other)
        else:
            self.refused(shelf, BadShelf("price"), shelf.__setitem__, "a", (Exact(5), -1))
            at = 0 if "a" not in beside and len(beside) == 8 else 1
            self.refused(shelf, BadDeed(at), shelf.stock, ("a", Exact(5), 1), ("b", Exact(5), None))
            return False
        return True

    def is_as(self, shelf, beside):
        self.same((list(shelf), len(shelf)), (sorted(beside), len(beside)))
        for name, (wheel, price) in beside.items():
            self.assertIs(type(shelf[name]), tuple)
            self.assertEqual(shelf[name], (wheel, price))
            self.same(name in shelf, True)

    def test_rows_of_deeds(self):
        rng = dice(231)
        for _ in range(60):
            shelf, beside = Shelf(), {}
            past, ahead = [], []
            for _ in range(40):
                kind = rng.random()
                if kind < 0.2:
                    if past:
                        self.same(shelf.undo(), None)
                        ahead.append(dict(beside))
                        beside = past.pop()
                    else:
                        self.refused(shelf, Nothing(), shelf.undo)
                elif kind < 0.35:
                    if ahead:
                        self.same(shelf.redo(), None)
                        past.append(dict(beside))
                        beside = ahead.pop()
                    else:
                        self.refused(shelf, Nothing(), shelf.redo)
                else:
                    then = dict(beside)
                    if self.one_deed(rng, shelf, beside):
                        past.append(then)
                        ahead = []
                self.is_as(shelf, beside)
                self.same((shelf.can_undo, shelf.can_redo), (len(past), len(ahead)))

    def test_deeds_that_change_nothing(self):
        shelf = Shelf()
        shelf.stock()
        self.same((len(shelf), shelf.can_undo), (0, 1))
        shelf["a"] = GOOD
        shelf["a"] = GOOD
        shelf.stock()
        shelf.stock(("a", *GOOD))
        self.same((shelf.can_undo, shelf.can_redo), (5, 0))
        shelf.undo()
        shelf.undo()
        self.same((shelf.can_undo, shelf.can_redo, list(shelf)), (3, 2, ["a"]))
        shelf.stock()
        self.same((shelf.can_undo, shelf.can_redo), (4, 0))
        self.raises(Nothing(), shelf.redo)

    def test_past_a_new_deed(self):
        shelf = Shelf()
        for name in "abc":
            shelf[name] = GOOD
        shelf.undo()
        shelf.undo()
        # what raises an error leaves what can be done again
        for work in (lambda: shelf.drop("z"), lambda: shelf["z"], lambda: shelf.stock(None), lambda: shelf.cost("z"),
                     lambda: shelf.chosen("z")):
            with self.assertRaises(ValueError):
                work()
        self.same((shelf.can_undo, shelf.can_redo), (1, 2))
        shelf.redo()
        self.same(list(shelf), ["a", "b"])
        shelf.drop("a")
        self.same((list(shelf), shelf.can_undo, shelf.can_redo), (["b"], 3, 0))
        self.raises(Nothing(), shelf.redo)
        for wanted in (["a", "b"], ["a"], []):
            shelf.undo()
            self.same(list(shelf), wanted)
        self.raises(Nothing(), shelf.undo)
        for wanted in (["a"], ["a", "b"], ["b"]):
            shelf.redo()
            self.same(list(shelf), wanted)
        self.raises(Nothing(), shelf.redo)

    def test_many_deeds(self):
        shelf = Shelf()
        for at in range(3000):
            shelf["a"] = (Exact(7), at)
        self.same(shelf.can_undo, 3000)
        for at in range(2999, 0, -1):
            shelf.undo()
            self.same(shelf["a"][1], at - 1)


class Stock(Unchanged):
    def test_rows_in_order(self):
        shelf = stocked(("a", Exact(5), 1), ("b", Exact(6), 2), ("a", Exact(7), 3))
        self.same(([(name, str(shelf[name][0]), shelf[name][1]) for name in shelf], shelf.can_undo),
                  ([("a", "wheel 7 0 0", 3), ("b", "wheel 6 0 0", 2)], 1))

    def test_a_bad_row_at_each_place(self):
        rows = [(letter, Exact(5), 1) for letter in "abcde"]
        bad = [(row, BadShelf("row")) for row in
               [*ANY, ("f", Exact(5)), ("f", Exact(5), 1, 1), ["f", Exact(5), 1], ("f", (Exact(5), 1))]
               if not (isinstance(row, tuple) and len(row) == 3)]
        bad += [((name, Exact(5), 1), BadShelf("name")) for name in NO_NAMES]
        bad += [((name, None, None), BadShelf("name")) for name in NO_NAMES[:5]]
        bad += [(("f", wheel, 1), BadShelf("wheel")) for wheel in NO_WHEELS]
        bad += [(("f", wheel, None), BadShelf("wheel")) for wheel in NO_WHEELS[:5]]
        bad += [(("f", Exact(5), price), BadShelf("price")) for price in NO_PRICES]
        shelf = stocked(("x", Exact(5), 1), ("y", Exact(5), 1))
        shelf.undo()
        for row, cause in bad:
            for at in range(len(rows) + 1):
                self.check(shelf, at, cause, *rows[:at], row, *rows[at:])
            self.check(shelf, 1, cause, rows[0], row, None, row)

    def check(self, shelf, at, cause, *rows):
        ahead = all_of(shelf)
        try:
            shelf.stock(*rows)
        except BadDeed as error:
            self.same(error.at, at)
            self.assertIs(type(error.__cause__), type(cause))
            self.assertEqual(vars(error.__cause__), vars(cause))
        else:
            self.fail(f"{rows} were stocked")
        self.assertEqual(all_of(shelf), ahead)

    def test_a_ninth_name(self):
        shelf = full()
        self.check(shelf, 0, TooMany("names", 8), ("i", *GOOD))
        self.check(shelf, 2, TooMany("names", 8), ("a", *GOOD), ("b", *GOOD), ("i", *GOOD), ("a", *GOOD))
        shelf.stock(("a", Even(9, 1), 7), ("h", Even(9, 1), 7))
        self.same((len(shelf), shelf.cost("a", "h")), (8, 14))
        self.refused(shelf, TooMany("names", 8), shelf.__setitem__, "i", GOOD)
        shelf.drop("a")
        shelf["i"] = GOOD
        self.same(len(shelf), 8)
        nine = [(letter, *GOOD) for letter in "abcdefghi"]
        self.check(Shelf(), 8, TooMany("names", 8), *nine)
        self.same(len(stocked(*nine[:8])), 8)
        # a bad wheel comes ahead of a ninth name
        self.check(shelf, 0, BadShelf("wheel"), ("z", None, None))
        self.check(shelf, 0, BadShelf("price"), ("z", Exact(5), None))


class Asked(Unchanged):
    def test_iteration_while_it_changes(self):
        shelf = full()
        seen = []
        for name in shelf:
            seen.append(name)
            shelf.drop(name)
            if name == "b":
                shelf["z"] = GOOD
        self.same((seen, list(shelf)), (list("abcdefgh"), ["z"]))
        shelf = full()
        names = iter(shelf)
        self.same(next(names), "a")
        shelf.undo()
        self.same((list(names), list(shelf)), (list("bcdefgh"), []))
        self.same([*stocked(("b", *GOOD), ("ab", *GOOD), ("a", *GOOD), ("aa", *GOOD))], ["a", "aa", "ab", "b"])

    def test_in_for_any_value(self):
        shelf = full()
        for value in [*ANY, *NO_NAMES, "z", "aa"]:
            self.same(value in shelf, False)
        self.same(["a" in shelf, "h" in shelf], [True, True])

    def test_items_and_drops(self):
        shelf = full()
        for value in [*ANY, *NO_NAMES, "z", "aa"]:
            self.refused(shelf, NoName(value), lambda: shelf[value])
            self.refused(shelf, NoName(value), shelf.drop, value)

    def test_settings(self):
        shelf = stocked(("x", *GOOD), ("y", *GOOD))
        shelf["y"] = (Exact(8), 0)
        shelf.undo()
        for name in NO_NAMES:
            for item in (GOOD, None, (None, None)):
                self.refused(shelf, BadShelf("name"), shelf.__setitem__, name, item)
        for item in [*ANY, [*GOOD], (Exact(5),), (Exact(5), 1, 1), "ab", {0: Exact(5), 1: 1}]:
            if not (isinstance(item, tuple) and len(item) == 2):
                self.refused(shelf, BadShelf("item"), shelf.__setitem__, "a", item)
                self.refused(full(), BadShelf("item"), full().__setitem__, "z", item)
        for wheel in NO_WHEELS:
            for price in (1, None):
                self.refused(shelf, BadShelf("wheel"), shelf.__setitem__, "x", (wheel, price))
        for price in NO_PRICES:
            self.refused(shelf, BadShelf("price"), shelf.__setitem__, "x", (Exact(5), price))
        for name in ("a", "z", "abcdefgh", "zzzzzzzz"):
            for price in (0, MOST):
                for wheel in WHEELS:
                    shelf[name] = (wheel, price)
                    self.assertEqual(shelf[name], (wheel, price))

    def test_cost_and_chosen(self):
        shelf = full()
        rng = dice(232)
        for many in range(9):
            for names in [tuple(rng.sample("abcdefgh", many)) for _ in range(12)]:
                self.same(shelf.cost(*names), sum("abcdefgh".index(name) for name in names))
                if not names:
                    continue
                for numbers in ((0, 0, 0), (1, 2, 3), (8, 8, 8)):
                    off, more, lost = numbers
                    wanted = Meter(*[Exact("abcdefgh".index(name) + 2) for name in names], off=off, more=more, lost=lost)
                    self.same(shelf.chosen(*names, off=off, more=more, lost=lost) == wanted, True)
                self.same(str(shelf.chosen(*names)).split(" ; ")[1], "off 0 more 0 lost 0")
                self.same(str(shelf.chosen(*names, lost=1)).split(" ; ")[1], "off 0 more 0 lost 1")
        self.same(stocked(("a", Exact(5), MOST), ("b", Exact(5), MOST)).cost("b", "a"), 2 * MOST)

    def test_names_that_cannot_be_chosen(self):
        shelf = full()
        for work in (shelf.cost, shelf.chosen):
            for value in [*ANY, *NO_NAMES, "z", "aa"]:
                self.refused(shelf, NoName(value), work, value)
                self.raises(NoName(value), work, "a", value, None)
                self.raises(NoName(value), work, "a", "a", value)
                self.raises(NoName(value), work, value, value)
            self.raises(BadShelf("names"), work, "a", "b", "a")
            self.raises(BadShelf("names"), work, *"abcdefgh", "h")
        self.raises(BadMeter("wheels"), shelf.chosen)
        self.raises(BadMeter("wheels"), shelf.chosen, off=None)
        for value in [*others(lambda value: is_int(value) and 0 <= value <= 8), 9, -1]:
            self.raises(BadMeter("off"), shelf.chosen, "a", off=value, more=None, lost=None)
            self.raises(BadMeter("more"), shelf.chosen, "a", more=value, lost=None)
            self.raises(BadMeter("lost"), shelf.chosen, "a", lost=value)
            self.raises(BadShelf("names"), shelf.chosen, "a", "a", off=value)

    def test_twins(self):
        shelf = full()
        shelf.drop("a")
        shelf.undo()
        twin = shelf.twin()
        self.same((type(twin), twin == shelf, twin.can_undo, twin.can_redo), (Shelf, True, 0, 0))
        self.raises(Nothing(), twin.undo)
        self.raises(Nothing(), twin.redo)
        self.same((shelf.can_undo, shelf.can_redo), (1, 1))
        twin.drop("b")
        self.same(("b" in shelf, "b" in twin, len(shelf), twin == shelf), (True, False, 8, False))
        shelf.undo()
        self.same((len(shelf), len(twin)), (0, 7))
        twin.undo()
        self.same((len(twin), twin.can_redo), (8, 1))

    def test_equal(self):
        one = stocked(("a", Exact(5), 1), ("b", Even(9, 1), 2))
        other = Shelf()
        other["b"] = (Wheel(9, 1, 1), 2)
        other["a"] = (Wheel(5, 0, 0), 1)
        self.same([one == other, one != other, Shelf() == Shelf()], [True, False, True])
        for rows in ([("a", Exact(5), 1)], [("a", Exact(5), 1), ("c", Even(9, 1), 2)],
                     [("a", Exact(5), 1), ("b", Even(9, 1), 3)], [("a", Exact(5), 1), ("b", Even(9, 2), 2)],
                     [("a", Grid(5), 1), ("b", Even(9, 1), 2)],
                     [("a", Exact(5), 1), ("b", Even(9, 1), 2), ("c", Exact(5), 1)],
                     [("b", Exact(5), 1), ("a", Even(9, 1), 2)]):
            self.same((one == stocked(*rows), stocked(*rows) != one), (False, True))
        for value in [*ANY, {"a": GOOD}, ("a",)]:
            self.same((one == value, Shelf() == value, value == Shelf()), (False, False, False))

    def test_what_was_passed_is_not_kept(self):
        rows = [("a", Exact(5), 1)]
        shelf = stocked(*rows)
        rows.append(("b", Exact(5), 1))
        self.same(list(shelf), ["a"])


if __name__ == "__main__":
    unittest.main()
