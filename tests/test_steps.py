"""steps.py: the first integer in two rounds, against all integers tried one by one."""

import unittest

from helpers import Case, dice
from wheelreach.lots import Lot
from wheelreach.steps import first_begin, first_in_both, first_step


class Steps(Case):
    def test_first_step_one_by_one(self):
        for period in range(1, 15):
            for step in range(0, 31):
                left = [i * step % period for i in range(period)]
                for low in range(period):
                    for high in range(low, period):
                        wanted = [i for i in range(period) if low <= left[i] <= high]
                        self.same(first_step(step, period, low, high), wanted[0] if wanted else None)

    def test_first_step_far(self):
        far = 10 ** 12
        # each step goes back by one
        self.same(first_step(far - 1, far, 7, 9), far - 9)
        self.same(first_step(far - 1, far, 7, 7), far - 7)
        period = 10 ** 90 + 10 ** 40 + 1
        turned = pow(10 ** 90, -1, period)
        self.same(first_step(10 ** 90, period, 10 ** 89, 10 ** 89), 10 ** 89 * turned % period)
        self.same(first_step(6 * far, 15 * far, far, 3 * far - 1), None)
        self.same(first_step(6 * far, 15 * far, far, 3 * far), 3)


class Both(Case):
    def test_first_begin_one_by_one(self):
        rng = dice(311)
        for _ in range(3000):
            period, begin, other, number = rng.randint(1, 9), rng.randint(0, 9), rng.randint(1, 9), rng.randint(-40, 40)
            low = rng.randint(0, other - 1)
            run = (low, low + rng.randint(0, other - 1))
            wanted = [x for x in range(number, number + 200)
                      if (x - begin) % period == 0 and (x - run[0]) % other <= run[1] - run[0]]
            self.same(first_begin(period, begin, other, run, number), wanted[0] if wanted else None)

    def test_first_in_both_one_by_one(self):
        rng = dice(312)
        for _ in range(2000):
            lots = []
            for _ in range(2):
                period = rng.randint(4, 14)
                lots.append(Lot(period, *[(at, at + rng.choice([0, 0, 1, 2])) for at in range(period)
                                          if at == 3 or rng.random() < 0.2]))
            one, other = [(lot.period, lot.runs) for lot in lots]
            number = rng.randint(-60, 60)
            wanted = [x for x in range(number, number + 200) if x in lots[0] and x in lots[1]]
            self.same(first_in_both(one, other, number), wanted[0] if wanted else None, (one, other, number))

    def test_far(self):
        far = 10 ** 12
        # the second one comes round one earlier each time
        self.same(first_in_both((far, ((5, 9),)), (far - 1, ((0, 3),)), 0), (far - 9) * (far - 1))
        self.same(first_in_both((far, ((5, 9),)), (far - 1, ((0, 3),)), far), (far - 9) * (far - 1))
        # with every step it goes back by two
        self.same(first_in_both((far, ((0, 0),)), (far + 2, ((1, 1),)), 0), None)
        self.same(first_in_both((far, ((0, 0),)), (far + 2, ((1, 2),)), 0), far * (far // 2))


if __name__ == "__main__":
    unittest.main()
