"""gaps.py and covers.py: where what lies in enough lots ends, against all integers tried one by one."""

import unittest

from helpers import Case, dice
from wheelreach import gaps
from wheelreach.covers import Cover
from wheelreach.gaps import Gaps, first_in_all, grouped, outer_of
from wheelreach.joins import rows_of
from wheelreach.lots import Lot
from wheelreach.meters import picks
from wheelreach.rounds import rest_of


def random_run_lot(rng, most):
    """A lot with one run in each round, or of all integers."""
    period = rng.randint(2, most)
    begin = rng.randint(-30, 30)
    return Lot(period, (begin, begin + rng.choice([0, 1, period // 2, period - 2, period - 2, period])))


def is_gap(held, others, missed, number):
    return (any(number not in lot for lot in held)
            or len([lot for lot in others if number not in lot]) > missed)


class AllGaps(Case):
    def check(self, rng, held, others, missed):
        found = Gaps(held, others, missed)
        for _ in range(6):
            low = rng.randint(-50, 50)
            high = low + rng.choice([-1, 0, 1, 5, 400])
            wanted = [x for x in range(low, high + 1) if is_gap(held, others, missed, x)][:1]
            self.same(found.first(low, high), wanted[0] if wanted else None)

    def test_gaps_one_by_one(self):
        for patience in (0, 1, gaps.PATIENCE):
            rng = dice(111 + patience)
            kept = gaps.PATIENCE
            gaps.PATIENCE = patience
            try:
                for _ in range(300):
                    held = [random_run_lot(rng, 9) for _ in range(rng.choice([0, 0, 0, 1, 2]))]
                    others = [random_run_lot(rng, 12) for _ in range(rng.randint(0, 5))]
                    self.check(rng, held, others, rng.randint(0, 3))
            finally:
                gaps.PATIENCE = kept

    def test_groups_have_the_same_integers_in_common(self):
        kept = gaps.MOST_MET
        for most in (0, 1, 3, kept):
            gaps.MOST_MET = most
            try:
                rng = dice(112)
                for _ in range(150):
                    lots = [random_run_lot(rng, 10) for _ in range(rng.randint(1, 5))]
                    tables = outer_of(lots)
                    group = grouped(tables)
                    self.assertLessEqual(len(group), len(tables))
                    low = rng.randint(-100, 100)
                    full = [lot for lot in lots if lot == Lot.every()]
                    outside = [x for x in range(low, low + 300)
                               if not any(x in lot for lot in lots if lot not in full)]
                    self.same(first_in_all(group, low, low + 299), outside[0] if outside else None)
            finally:
                gaps.MOST_MET = kept

    def test_what_is_met_is_met_again(self):
        # the first two have nothing in common by 1000, but are parted by one with too many runs for both
        tables = outer_of([~Lot(7000, (0, 499)), ~Lot(9000, (500, 999)), ~Lot(11, (0, 4))])
        self.same(first_in_all(grouped(tables), 0, 10 ** 90), None)
        self.same(first_in_all([(5, ((0, 0),)), (7, ())], 0, 10 ** 90), None)

    def test_outer_of(self):
        self.same(outer_of([Lot(5, (0, 1)), Lot.every(), Lot(3, (2, 2))]), [(5, ((2, 4),)), (3, ((0, 1),))])
        self.same(rest_of((1, ((0, 0),))), (1, ()))


class Covers(Case):
    def made(self, rng):
        """A Cover of what lies in all but at most so many of some lots, and those lots."""
        lots = [Lot(period, (begin, begin + rng.choice([0, 1, 3, period - 1])))
                for period, begin in ((rng.randint(2, 9), rng.randint(0, 9)) for _ in range(rng.randint(1, 4)))]
        missed = rng.randint(0, 2)
        choices = [tuple(some) for some in picks(list(range(len(lots))), max(0, len(lots) - missed))]
        return Cover(rows_of(lots, choices, {}), Gaps([], lots, missed)), lots, missed

    def test_members_and_runs(self):
        rng = dice(113)
        for _ in range(200):
            cover, lots, missed = self.made(rng)
            inside = [x for x in range(-3100, 3101) if len([lot for lot in lots if x not in lot]) <= missed]
            low = rng.randint(-40, 40)
            high = low + rng.choice([-2, 0, 1, 30])
            self.same(cover.next_in(low), min([x for x in inside if x >= low], default=None))
            self.same(cover.last_in(low), max([x for x in inside if x <= low], default=None))
            between = [x for x in inside if low <= x <= high]
            self.same(cover.has_between(low, high), bool(between))
            wanted = []
            for x in between:
                if wanted and wanted[-1][1] == x - 1:
                    wanted[-1] = (wanted[-1][0], x)
                else:
                    wanted.append((x, x))
            for most in (0, 1, 2, 100):
                self.same(cover.runs_within(low, high, most), wanted[:most])


if __name__ == "__main__":
    unittest.main()
