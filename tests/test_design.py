"""design.py: cheapest and frontier against all selections, tried one by one."""

import itertools
import unittest

from helpers import ANY, Case, dice, is_int, others
from meter_helpers import blind, random_wheel
from wheelreach.design import Cheapest, NoChoice, cheapest, frontier
from wheelreach.errors import BadMeter, BadNumber, BadShelf, TooMany
from wheelreach.meters import Meter
from wheelreach.reaches import Sure, reach_of, sure
from wheelreach.shelf import Shelf
from wheelreach.wheels import Even, Exact, Grid, Wheel

MOST = 10 ** 100
FAR = 10 ** 12
TOO_MANY = TooMany("runs", 2000)
WIDE, FINE, SAME = Wheel(FAR, 1000, 0), Exact(FAR - 1), Exact(FAR)


def shelf_of(**items):
    shelf = Shelf()
    for name, (wheel, price) in items.items():
        shelf[name] = (wheel, price)
    return shelf


FOUR = shelf_of(a=(Exact(7), 3), b=(Exact(9), 4), c=(Exact(11), 5), d=(Even(100, 1), 6))


def random_shelf(rng, most=12):
    names = rng.sample(["a", "ab", "b", "c", "zz"], rng.randint(0, 5))
    return shelf_of(**{name: (random_wheel(rng, most), rng.choice([0, 1, 2, 3, 3, 5])) for name in names})


def selections(shelf):
    """All selections, the better ones first, by asking the shelf for each."""
    names = sorted(shelf)
    rows = []
    for many in range(1, len(names) + 1):
        rows += list(itertools.combinations(names, many))
    return sorted(rows, key=lambda row: (sum(shelf[name][1] for name in row), len(row), row))


def meter_by_hand(shelf, names, numbers):
    off, more, lost = numbers
    return Meter(*[shelf[name][0] for name in names], off=off, more=more, lost=lost)


def reach_by_hand(meter, window, stop):
    """The least blind difference above the window, by counting; None if there is none below the stop."""
    for d in range(window + 1, stop):
        if blind(meter, d):
            return d
    return None


class Examples(Case):
    def test_examples(self):
        found = cheapest(FOUR, 60, 0)
        self.same([found.names, found.price], [('a', 'b'), 7])
        self.same([cheapest(FOUR, 700, 0).names, bool(cheapest(FOUR, 10000, 0)), cheapest(Shelf(), 1, 0).bar,
                   cheapest(FOUR, 60, 0, off=1).names], [('a', 'b', 'd'), False, None, ('a', 'b', 'c', 'd')])
        self.same([(price, reach, "".join(names)) for price, reach, names in frontier(FOUR, 0)],
                  [(3, 7, 'a'), (4, 9, 'b'), (5, 11, 'c'), (7, 63, 'ab'), (8, 77, 'ac'), (9, 98, 'ad'), (9, 99, 'bc'),
                   (12, 693, 'abc'), (13, 1701, 'abd'), (18, 9702, 'abcd')])

    def test_names_of_arguments(self):
        self.same(cheapest(lost=1, more=0, off=0, window=0, reach=7, shelf=FOUR) == cheapest(FOUR, 7, 0, 0, 0, 1), True)
        self.same(frontier(lost=1, more=0, off=0, window=0, shelf=FOUR) == frontier(FOUR, 0, 0, 0, 1), True)


class Tried(Case):
    def setUp(self):
        rng = dice(241)
        self.rows = []
        for _ in range(250):
            numbers = tuple(rng.choice([0, 0, 0, 0, 1, 2]) for _ in range(3))
            self.rows.append((random_shelf(rng), numbers, rng.randint(1, rng.choice([8, 20, 200])), rng.choice([0, 0, 1, 2, 5])))

    def test_cheapest(self):
        seen = {"none": 0, "found": 0, "empty": 0}
        for shelf, numbers, reach, window in self.rows:
            found = cheapest(shelf, reach, window, *numbers)
            self.assertEqual(found, cheapest(shelf, reach, window, *numbers))
            wanted, better = None, []
            for names in selections(shelf):
                meter = meter_by_hand(shelf, names, numbers)
                if reach_by_hand(meter, window, reach) is None:
                    wanted = names
                    break
                better.append(meter)
            if wanted is None:
                self.no_choice(found, shelf, numbers, reach, window)
                seen["none" if len(shelf) else "empty"] += 1
                continue
            seen["found"] += 1
            meter = meter_by_hand(shelf, wanted, numbers)
            self.same((type(found), bool(found), found.names), (Cheapest, True, wanted))
            self.same(found.price, sum(shelf[name][1] for name in wanted))
            self.assertIs(type(found.certificate), Sure)
            self.assertEqual(found.certificate, sure(meter, reach, window))
            self.bars(found.bars, better, reach, window)
        self.assertGreater(seen["none"], 40)
        self.assertGreater(seen["found"], 60)
        self.assertGreater(seen["empty"], 20)

    def bars(self, bars, better, reach, window):
        self.assertIs(type(bars), tuple)
        self.same(bars, tuple(sorted(set(bars))))
        for bar in bars:
            self.same(is_int(bar) and window < bar < reach, True)
        for meter in better:
            self.assertTrue(any(blind(meter, bar) for bar in bars))

    def no_choice(self, found, shelf, numbers, reach, window):
        self.same((type(found), bool(found)), (NoChoice, False))
        if not len(shelf):
            self.same(found.bar, None)
            return
        self.same(is_int(found.bar) and window < found.bar < reach, True)
        self.same(blind(meter_by_hand(shelf, sorted(shelf), numbers), found.bar), True)

    def test_frontier(self):
        longest = 0
        for shelf, numbers, _, window in self.rows:
            wanted, best = [], 0
            for names in selections(shelf):
                reach = reach_of(meter_by_hand(shelf, names, numbers), window)
                if reach > best:
                    best = reach
                    wanted.append((sum(shelf[name][1] for name in names), reach, names))
            self.same(frontier(shelf, window, *numbers), tuple(wanted))
            longest = max(longest, len(wanted))
        self.assertGreater(longest, 5)
        self.same(frontier(Shelf(), 0), ())

    def test_both_together(self):
        for shelf, numbers, _, window in self.rows[:80]:
            rows = frontier(shelf, window, *numbers)
            for price, reach, names in rows:
                found = cheapest(shelf, reach, window, *numbers)
                self.same((found.names, found.price), (names, price))
            if rows:
                self.same(bool(cheapest(shelf, rows[-1][1] + 1, window, *numbers)), False)

    def test_equal_costs(self):
        shelf = shelf_of(a=(Exact(6), 2), b=(Exact(5), 2), c=(Exact(30), 4), d=(Exact(30), 4))
        # as many coins, fewer names; then the lesser names
        self.same(cheapest(shelf, 30, 0).names, ("c",))
        self.same(cheapest(shelf, 5, 0).names, ("a",))
        self.same([names for _, _, names in frontier(shelf, 0)], [("a",), ("c",)])
        free = shelf_of(z=(Exact(4), 0), b=(Exact(8), 0), ab=(Exact(8), 0), a=(Exact(3), 1))
        self.same([cheapest(free, 4, 0).names, cheapest(free, 5, 0).names, cheapest(free, 8, 0).names],
                  [("ab",), ("ab",), ("ab",)])
        self.same(frontier(free, 0), ((0, 8, ("ab",)), (1, 24, ("a", "ab"))))
        self.same(cheapest(free, 1, 0).bars, ())

    def test_eight_names(self):
        shelf = shelf_of(**{name: (Exact(period), 1 + at % 3) for at, (name, period) in
                            enumerate(zip("abcdefgh", (7, 9, 11, 13, 17, 19, 23, 25)))})
        for numbers, reach in (((0, 0, 0), 10 ** 6), ((0, 0, 2), 1000), ((1, 0, 0), 4000), ((1, 1, 1), 100)):
            found = cheapest(shelf, reach, 3, *numbers)
            better = []
            for names in selections(shelf):
                if names == found.names:
                    break
                better.append(meter_by_hand(shelf, names, numbers))
            self.bars(found.bars, better, reach, 3)
            self.same(bool(sure(meter_by_hand(shelf, found.names, numbers), reach, 3)), True)
        rows = frontier(shelf, 0, 1)
        best = 0
        for names in selections(shelf):
            reach = reach_of(meter_by_hand(shelf, names, (1, 0, 0)), 0)
            if reach > best:
                best = reach
                self.same(rows[0], (sum(shelf[name][1] for name in names), reach, names))
                rows = rows[1:]
        self.same(rows, ())

    def test_great_numbers(self):
        shelf = shelf_of(**{name: (Exact(FAR - n), FAR) for name, n in zip("abcdefgh", (0, 1, 3, 7, 9, 11, 13, 17))})
        found = cheapest(shelf, 10 ** 90, 10 ** 20)
        self.same((bool(found), len(found.names), found.price), (True, 8, 8 * FAR))
        self.same(bool(cheapest(shelf, MOST, 0)), False)
        self.same(cheapest(shelf, MOST, MOST).names, ("a",))
        self.same([len(names) for _, _, names in frontier(shelf, 0)][-1], 8)
        self.same(len(frontier(shelf, MOST)) > 1, True)
        self.same(shelf.can_undo, 8)


class Heavy(Case):
    """Of WIDE and FINE together; SAME makes all that it stands ahead of light."""

    def test_the_meter_of_all_names(self):
        for reach in (1, MOST):
            self.raises(TOO_MANY, cheapest, shelf_of(a=(WIDE, 0), b=(FINE, 0)), reach, 0)
            self.raises(TOO_MANY, cheapest, shelf_of(a=(WIDE, 5), b=(FINE, 5), c=(Exact(2), 0)), reach, 0)
        self.raises(TOO_MANY, frontier, shelf_of(a=(WIDE, 0), b=(FINE, 0)), 0)

    def test_a_selection_in_front_of_and_behind_the_one_that_is_told(self):
        # a selection of b and c alone is heavy; with a ahead of them nothing is
        for price, heavy in ((0, False), (1, False), (2, False), (3, True), (9, True)):
            shelf = shelf_of(a=(SAME, price), b=(WIDE, 1), c=(FINE, 1))
            self.raises(TOO_MANY, frontier, shelf, 0)
            self.raises(TOO_MANY, frontier, shelf, MOST)
            # a alone is sure for it, b and c are not
            if heavy:
                self.raises(TOO_MANY, cheapest, shelf, FAR, 0)
            else:
                self.same(cheapest(shelf, FAR, 0).names, ("a",))
            # no selection is sure: then only of all names it is asked whether they are heavy
            whole = FAR * (FAR - 1)
            self.same((bool(cheapest(shelf, whole + 1, 0)), cheapest(shelf, whole + 1, 0).bar), (False, whole))
        shelf = shelf_of(a=(SAME, 1), b=(WIDE, 1), c=(FINE, 1))
        self.same(cheapest(shelf, FAR, 0).names, ("a",))
        # a with c is sure for all below their product; a with b, of as many coins, is better; b with c is behind it
        self.same(cheapest(shelf, FAR * (FAR - 1), 0).names, ("a", "c"))
        dear = shelf_of(a=(SAME, 2), b=(WIDE, 1), c=(FINE, 1))
        self.raises(TOO_MANY, cheapest, dear, FAR * (FAR - 1), 0)
        self.same(cheapest(dear, FAR, 0).names, ("a",))
        self.same(cheapest(dear, FAR - 1, 0).names, ("c",))

    def test_heavy_by_a_number(self):
        # one may be lost: the selection of all three is heavy by its choice of b and c
        shelf = shelf_of(a=(SAME, 1), b=(WIDE, 1), c=(FINE, 1))
        self.raises(TOO_MANY, cheapest, shelf, 1, 0, 0, 0, 1)
        self.raises(TOO_MANY, frontier, shelf, 0, 0, 0, 1)
        self.same(cheapest(shelf, 1, 0, 0, 0, 2).names, ("a",))
        self.same(frontier(shelf, 0, 0, 0, 2)[0], (1, 1, ("a",)))

    def test_the_one_that_is_told_is_heavy(self):
        # all three are not heavy, since SAME stands ahead; of b and c, which cost nothing, the meter is
        shelf = shelf_of(a=(SAME, 5), b=(WIDE, 0), c=(FINE, 0))
        self.same(cheapest(shelf, FAR - 1, 2000).names, ("c",))
        self.raises(TOO_MANY, cheapest, shelf, FAR, 2000)
        self.raises(TOO_MANY, cheapest, shelf, FAR * (FAR - 1), 2000)
        self.same(bool(cheapest(shelf, FAR * (FAR - 1) + 1, 2000)), False)


class Wrong(Case):
    def test_errors_in_their_order(self):
        heavy = shelf_of(a=(WIDE, 0), b=(FINE, 0))
        for value in [*ANY, Meter(Exact(5)), {"a": (Exact(5), 1)}]:
            self.raises(BadShelf("shelf"), cheapest, value, None, None, None, None, None)
            self.raises(BadShelf("shelf"), cheapest, value, 1, 0)
            self.raises(BadShelf("shelf"), frontier, value, None, None, None, None)
            self.raises(BadShelf("shelf"), frontier, value, 0)
        for shelf in (FOUR, heavy, Shelf()):
            for value in others(lambda value: is_int(value) and 1 <= value <= MOST) + [0, MOST + 1]:
                self.raises(BadNumber(value), cheapest, shelf, value, None, None, None, None)
                self.raises(BadNumber(value), cheapest, shelf, value, 0)
            for value in others(lambda value: is_int(value) and 0 <= value <= MOST) + [-1, MOST + 1]:
                self.raises(BadNumber(value), cheapest, shelf, MOST, value, None, None, None)
                self.raises(BadNumber(value), cheapest, shelf, 1, value)
                self.raises(BadNumber(value), frontier, shelf, value, None, None, None)
            for value in others(lambda value: is_int(value) and 0 <= value <= 8) + [-1, 9]:
                self.raises(BadMeter("off"), cheapest, shelf, 1, MOST, value, None, None)
                self.raises(BadMeter("more"), cheapest, shelf, MOST, 0, 8, value, None)
                self.raises(BadMeter("lost"), cheapest, shelf, MOST, 0, 0, 8, value)
                self.raises(BadMeter("off"), frontier, shelf, MOST, value, None, None)
                self.raises(BadMeter("more"), frontier, shelf, 0, 8, value, None)
                self.raises(BadMeter("lost"), frontier, shelf, 0, 0, 8, value)
        self.same([cheapest(Shelf(), MOST, MOST, 8, 8, 8).bar, frontier(Shelf(), MOST, 8, 8, 8)], [None, ()])


if __name__ == "__main__":
    unittest.main()
