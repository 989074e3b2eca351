"""look_design.py: shows_choice of right papers and of all that is a little otherwise."""

import unittest

from helpers import ANY, Case, alike, dice, is_int, others
from meter_helpers import blind
from test_design import FAR, FINE, FOUR, MOST, SAME, WIDE, meter_by_hand, random_shelf, selections, shelf_of
from test_look_joins import table_changes, with_item
from wheelreach.design import Cheapest, NoChoice, cheapest
from wheelreach.errors import BadMeter, BadNumber, BadShelf, TooMany
from wheelreach.look_design import shows_choice
from wheelreach.look_reaches import shows_sure
from wheelreach.meters import Meter
from wheelreach.reaches import Sure, Unsure, sure
from wheelreach.shelf import Shelf
from wheelreach.wheels import Even, Exact


class Examples(Case):
    def test_examples(self):
        found = cheapest(FOUR, 60, 0)
        self.same([shows_choice(FOUR, 60, 0, found), shows_choice(FOUR, 64, 0, found),
                   shows_choice(FOUR, 60, 0, Cheapest(("a", "b"), 7, found.certificate, (1, 7, 9, 11))),
                   shows_choice(FOUR, 10000, 0, NoChoice(9702))], [True, False, True, True])
        self.same(shows_choice(lost=0, more=0, off=1, value=cheapest(FOUR, 60, 0, 1), window=0, reach=60, shelf=FOUR),
                  True)
        self.same(shows_choice(FOUR, 60, 0, cheapest(FOUR, 60, 0, 1), 1), True)


def by_hand(shelf, reach, window, numbers, paper):
    """Whether a Cheapest with names that can be chosen is right, asked selection by selection."""
    better = []
    for names in selections(shelf):
        if names == paper.names:
            break
        better.append(meter_by_hand(shelf, names, numbers))
    bars = paper.bars
    return (alike(paper.price, sum(shelf[name][1] for name in paper.names))
            and alike(bars, tuple(sorted(set(bars)))) and all(is_int(bar) and window < bar < reach for bar in bars)
            and isinstance(paper.certificate, Sure)
            and shows_sure(meter_by_hand(shelf, paper.names, numbers), reach, window, paper.certificate)
            and all(any(blind(meter, bar) for bar in bars) for meter in better))


class Tried(Case):
    def setUp(self):
        rng = dice(251)
        self.rows = []
        for _ in range(120):
            numbers = tuple(rng.choice([0, 0, 0, 0, 1, 2]) for _ in range(3))
            shelf, window = random_shelf(rng), rng.choice([0, 0, 1, 2])
            for reach in (rng.randint(1, 9), rng.randint(1, 30), rng.randint(1, 200)):
                self.rows.append((shelf, reach, window, numbers, cheapest(shelf, reach, window, *numbers)))

    def test_what_cheapest_returns(self):
        for shelf, reach, window, numbers, found in self.rows:
            self.same(shows_choice(shelf, reach, window, found, *numbers), True)

    def test_each_no_choice(self):
        seen = {True: 0, False: 0}
        for shelf, reach, window, numbers, found in self.rows:
            whole = meter_by_hand(shelf, sorted(shelf), numbers) if len(shelf) else None
            for bar in [*range(-2, 16), reach - 1, reach, reach + 1, window, window + 1, True, False, None, "1", 1.0]:
                wanted = bar is None if whole is None else (
                    is_int(bar) and window < bar < reach and blind(whole, bar))
                self.same(shows_choice(shelf, reach, window, NoChoice(bar), *numbers), wanted)
                seen[wanted] += 1
        self.assertGreater(min(seen.values()), 300)

    def test_a_little_otherwise(self):
        seen = {True: 0, False: 0}
        for shelf, reach, window, numbers, found in self.rows:
            if not found:
                continue
            for paper in self.changes(shelf, reach, window, found):
                wanted = by_hand(shelf, reach, window, numbers, paper)
                self.same(shows_choice(shelf, reach, window, paper, *numbers), wanted, vars(paper))
                seen[wanted] += 1
        self.assertGreater(min(seen.values()), 300)

    def changes(self, shelf, reach, window, found):
        names, price, certificate, bars = found.names, found.price, found.certificate, found.bars
        rows = []
        for other in selections(shelf):
            cost = sum(shelf[name][1] for name in other)
            for sum_told in (cost, price):
                rows.append(Cheapest(other, sum_told, certificate, bars))
            rows.append(Cheapest(other, cost, sure(shelf.chosen(*other), reach, window), bars))
        for other in (price + 1, price - 1, -price - 1, bool(price), None):
            rows.append(Cheapest(names, other, certificate, bars))
        every = tuple(range(window + 1, reach))
        for other in (every, every[1:], every[:-1], every[::2], (window, *every), (*every, reach), (), every[::-1]):
            rows.append(Cheapest(names, price, certificate, other))
        for at, bar in enumerate(bars):
            for new in ((), (bar, bar), (bar + 1,), (bar - 1,), (bar, bar + 1), (bar - 1, bar), (-bar,)):
                rows.append(Cheapest(names, price, certificate, with_item(bars, at, *new)))
        rows += [Cheapest(names, price, certificate, bars[::-1]), Cheapest(names, price, certificate, bars + bars)]
        return rows


class Spoiled(Case):
    def setUp(self):
        self.found = cheapest(FOUR, 60, 0)

    def shown(self, **more):
        found = self.found
        parts = {"names": found.names, "price": found.price, "certificate": found.certificate, "bars": found.bars}
        parts.update(more)
        return shows_choice(FOUR, 60, 0, Cheapest(**parts))

    def test_names(self):
        self.same(self.shown(), True)
        for names in [*ANY, ("b", "a"), ("a", "a"), ("a", "a", "b"), ("a", "b", "b"), ["a", "b"], "ab", ("a",), ("b",),
                      ("a", "b", "c"), ("a", "e"), ("a", "B"), ("a", None), (0, 1), (True, "b"), {"a": 1, "b": 2},
                      ("a", ("b",)), (("a", "b"),), ("a", ["b"]), ("", "a", "b"), ("A" * 3000,)]:
            self.same(self.shown(names=names), False, names)

    def test_names_of_any_order(self):
        # the other order is no selection, though all its wheels are the same
        shelf = shelf_of(a=(Exact(7), 1), b=(Exact(7), 1))
        found = cheapest(shelf, 7, 0)
        self.same((found.names, shows_choice(shelf, 7, 0, found)), (("a",), True))
        self.same(shows_choice(shelf, 7, 0, Cheapest(("b",), 1, found.certificate, ())), False)
        self.same(shows_choice(shelf, 7, 0, Cheapest(("b",), 1, found.certificate, (1, 2, 3, 4, 5, 6))), False)

    def test_price(self):
        for price in [*others(lambda value: alike(value, 7)), 7.0, "7", 8, 6, -7]:
            self.same(self.shown(price=price), False, price)
        free = shelf_of(a=(Exact(7), 0), b=(Exact(8), 1))
        found = cheapest(free, 7, 0)
        for price, wanted in ((0, True), (False, False), (1, False), (None, False)):
            self.same(shows_choice(free, 7, 0, Cheapest(("a",), price, found.certificate, ())), wanted)
        found = cheapest(free, 8, 0)
        for price, wanted in ((1, True), (True, False), (0, False)):
            self.same(shows_choice(free, 8, 0, Cheapest(("b",), price, found.certificate, found.bars)), wanted)

    def test_certificates(self):
        tables = self.found.certificate.tables
        for other in [*ANY, tables, self.found, sure(FOUR.chosen("a"), 60, 0), sure(FOUR.chosen("a"), 1, 0),
                      Unsure(0, 7, (0, 0), (), ()), Sure(()), Sure(((),)), Sure(list(tables)), Sure(tables + tables)]:
            self.same(self.shown(certificate=other), False)
        for changed in table_changes(tables[0]):
            self.same(self.shown(certificate=Sure((changed,))), alike(changed, tables[0]))
        # any Sure with right tables
        self.same(self.shown(certificate=sure(FOUR.chosen("a", "b"), 1, 0)), True)
        self.same(self.shown(certificate=sure(FOUR.chosen("b", "a"), 1, 0)), False)
        self.same(self.shown(certificate=sure(FOUR.chosen("a", "b", lost=1), 1, 0)), False)

    def test_bars(self):
        for bars in [*ANY, list(self.found.bars), None, (1, 7, 9), (7, 9, 11), (1, 7, 11), (1, 9, 11), (1, 9, 7, 11),
                     (1, 1, 7, 9, 11), (0, 1, 7, 9, 11), (-7, 1, 7, 9, 11), (1, 7, 9, 11, 60), (1, 7, 9, 11, 61),
                     (True, 7, 9, 11), (1, "7", 9, 11), (1, 7, 9, 11, None), (1, 7.0, 9, 11), {1: 1, 7: 1, 9: 1, 11: 1},
                     ((1, 7, 9, 11),), (1, 7, 9, 11, [12]), "17911"]:
            self.same(self.shown(bars=bars), False, bars)
        for bars in ((1, 7, 9, 11), (1, 7, 9, 11, 59), (1, 2, 7, 9, 11), tuple(range(1, 60)), (2, 14, 18, 22, 44),
                     (1, 49, 54, 55)):
            self.same(self.shown(bars=bars), True, bars)

    def test_any_values(self):
        empty = Shelf()
        for value in [*ANY, FOUR, sure(FOUR.chosen("a"), 1, 0), ("a", "b"), self.found.certificate]:
            for shelf in (FOUR, empty):
                self.same(shows_choice(shelf, 60, 0, value), False)
                self.same(shows_choice(shelf, 60, 0, NoChoice(value)), shelf is empty and value is None)
                self.same(shows_choice(shelf, 60, 0, Cheapest(value, value, value, value)), False)
                self.same(shows_choice(shelf, 60, 0, Cheapest(("a", "b"), 7, value, value)), False)
                self.same(shows_choice(shelf, 60, 0, Cheapest(("a", "b"), value, Sure(value), ())), False)
        self.same(shows_choice(empty, 60, 0, self.found), False)
        self.same(shows_choice(empty, 60, 0, Cheapest((), 0, Sure(((),)), ())), False)

    def test_great_bars(self):
        shelf = shelf_of(a=(Exact(FAR), 1), b=(Even(FAR - 1, 3), 2))
        whole = FAR * (FAR - 1)
        for d in (whole, 2 * whole, 10 ** 70 * whole):
            self.same(shows_choice(shelf, MOST, 0, NoChoice(d)), True)
            self.same(shows_choice(shelf, d, 0, NoChoice(d)), False)
            self.same(shows_choice(shelf, d + 1, 0, NoChoice(d)), True)
            self.same(shows_choice(shelf, MOST, d - 1, NoChoice(d)), True)
            self.same(shows_choice(shelf, MOST, d, NoChoice(d)), False)
            self.same(shows_choice(shelf, MOST, 0, NoChoice(d + 1)), False)
        eight = shelf_of(**{name: (Exact(7 + at), at) for at, name in enumerate("abcdefgh")})
        found = cheapest(eight, 10 ** 5, 0)
        self.same(shows_choice(eight, 10 ** 5, 0, found), True)
        many = tuple(sorted(set(range(1, 3000)) | set(found.bars)))
        self.same(shows_choice(eight, 10 ** 5, 0, Cheapest(found.names, found.price, found.certificate, many)), True)
        self.same(shows_choice(eight, 10 ** 5, 0, Cheapest(found.names, found.price, found.certificate,
                                                            found.bars[:-1])), False)


class Heavy(Case):
    def test_heavy_selections(self):
        shelf = shelf_of(a=(SAME, 9), b=(WIDE, 1), c=(FINE, 1))
        self.raises(TooMany("runs", 2000), cheapest, shelf, FAR, 2000)
        certificate = sure(Meter(SAME), FAR, 2000)
        # b and c together are heavy, and have no blind difference between
        for bars in ((FAR - 1,), (FAR - 1, FAR), (10 ** 11, FAR - 1)):
            self.same(shows_choice(shelf, FAR + 1, 2000, Cheapest(("a",), 9, certificate, bars)), False)
        # for a reach beyond it b, c and both are barred by one, a is not sure
        self.same(shows_choice(shelf, FAR + 1, 0, Cheapest(("a",), 9, certificate, (FAR - 1,))), False)
        wider = shelf_of(a=(SAME, 9), b=(WIDE, 1), c=(Exact(FAR - 1), 1))
        self.same(shows_choice(wider, FAR, 0, Cheapest(("a",), 9, certificate, (FAR - 1,))), True)
        self.same(shows_choice(wider, FAR, 0, Cheapest(("a",), 9, certificate, (FAR - 2,))), False)
        self.same(shows_choice(wider, FAR - 1, 0, Cheapest(("a",), 9, certificate, (FAR - 1,))), False)
        both = shelf_of(b=(WIDE, 1), c=(FINE, 1))
        self.same(shows_choice(both, FAR, 0, NoChoice(FAR - 1)), True)
        self.same(shows_choice(both, FAR, 0, NoChoice(FAR - 2)), False)
        self.same(shows_choice(both, FAR, 0, Cheapest(("b", "c"), 2, Sure(((),)), ())), False)


class Wrong(Case):
    def test_errors_in_their_order(self):
        heavy = shelf_of(a=(WIDE, 0), b=(FINE, 0))
        for looked in (None, NoChoice(None), NoChoice(3), cheapest(FOUR, 60, 0)):
            for value in [*ANY, Meter(Exact(5)), {"a": (Exact(5), 1)}]:
                self.raises(BadShelf("shelf"), shows_choice, value, None, None, looked, None, None, None)
                self.raises(BadShelf("shelf"), shows_choice, value, 1, 0, looked)
            for shelf in (FOUR, heavy, Shelf()):
                for value in others(lambda value: is_int(value) and 1 <= value <= MOST) + [0, MOST + 1]:
                    self.raises(BadNumber(value), shows_choice, shelf, value, None, looked, None, None, None)
                    self.raises(BadNumber(value), shows_choice, shelf, value, 0, looked)
                for value in others(lambda value: is_int(value) and 0 <= value <= MOST) + [-1, MOST + 1]:
                    self.raises(BadNumber(value), shows_choice, shelf, MOST, value, looked, None, None, None)
                    self.raises(BadNumber(value), shows_choice, shelf, 1, value, looked)
                for value in others(lambda value: is_int(value) and 0 <= value <= 8) + [-1, 9]:
                    self.raises(BadMeter("off"), shows_choice, shelf, 1, MOST, looked, value, None, None)
                    self.raises(BadMeter("more"), shows_choice, shelf, MOST, 0, looked, 8, value, None)
                    self.raises(BadMeter("lost"), shows_choice, shelf, MOST, 0, looked, 0, 8, value)


if __name__ == "__main__":
    unittest.main()
