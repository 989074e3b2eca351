"""numbers.py: divisors, multiples, distances and remainders."""

import math
import unittest

from helpers import ANY, Case, dice, is_int, others
from wheelreach.errors import BadNumber
from wheelreach.numbers import apart, common, is_whole, multiple, together

GREAT = 10 ** 119 + 7


def is_part(value):
    return (isinstance(value, tuple) and len(value) == 2 and is_int(value[0]) and is_int(value[1]) and value[1] >= 1)


class Numbers(Case):
    def test_examples(self):
        self.same([common(12, -18), common(), common(0, 0), multiple(4, 6, 10), multiple()], [6, 0, 0, 60, 1])
        self.same([apart(898, 100), apart(898, 90), apart(-7, 10), apart(5, 10)], [2, 2, 3, 5])
        self.same([together((2, 3), (3, 5), (2, 7)), together((1, 4), (3, 6)), together((1, 4), (2, 6))],
                  [23, 9, None])
        self.same([together(), together((-1, 10))], [0, 9])
        self.raises(BadNumber((1, 0)), together, (1, 0))

    def test_is_whole(self):
        for value in ANY:
            self.assertIs(is_whole(value), is_int(value))
        self.assertIs(is_whole(value=True), False)

    def test_common(self):
        for one in range(-12, 13):
            self.same(common(one), abs(one))
            for other in range(-12, 13):
                for third in (0, 4, -9):
                    wanted = max([g for g in range(1, 13) if one % g == other % g == third % g == 0])
                    if one == other == third == 0:
                        wanted = 0
                    self.same(common(one, other, third), wanted)

    def test_multiple(self):
        for one in range(1, 13):
            self.same(multiple(one), one)
            for other in range(1, 13):
                for third in (1, 4, 9):
                    wanted = 1
                    while wanted % one or wanted % other or wanted % third:
                        wanted += 1
                    self.same(multiple(one, other, third), wanted)

    def test_fifty_great_numbers(self):
        factor = 10 ** 59 + 9
        numbers = [factor * n for n in range(1, 51)]
        self.same(common(*numbers), factor)
        self.same(common(*[-n for n in numbers]), factor)
        self.same(multiple(*numbers), factor * math.lcm(*range(1, 51)))
        spread = [GREAT + n for n in range(50)]
        self.same(multiple(*spread), math.lcm(*spread))
        self.same(common(*spread), 1)

    def test_wrong_numbers(self):
        for value in others(is_int):
            for ahead in range(3):
                self.raises(BadNumber(value), common, *[6] * ahead, value, 4, None)
        for value in others(lambda value: is_int(value) and value >= 1):
            for ahead in range(3):
                self.raises(BadNumber(value), multiple, *[6] * ahead, value, 4, 0)

    def test_apart(self):
        for period in range(1, 14):
            for d in range(-40, 41):
                self.same(apart(d, period), min(abs(d - period * n) for n in range(-41, 42)))
        self.same(apart(GREAT * 10 - 3, GREAT), 3)
        self.same(apart(-GREAT, 10 ** 120 - 1), GREAT)
        self.same(apart(d=7, period=10), 3)

    def test_apart_wrong(self):
        for d in others(is_int):
            self.raises(BadNumber(d), apart, d, 10)
            self.raises(BadNumber(d), apart, d, 0)
        for period in others(lambda value: is_int(value) and value >= 1):
            self.raises(BadNumber(period), apart, 5, period)

    def test_together_against_all_remainders(self):
        for one in range(1, 9):
            for other in range(1, 9):
                for first in range(-2, one + 2):
                    for second in range(-2, other + 2):
                        self.same(together((first, one), (second, other)), self.tried([(first, one), (second, other)]))

    def test_together_of_more(self):
        rng = dice(3)
        for _ in range(400):
            parts = [(rng.randint(-20, 20), rng.randint(1, 12)) for _ in range(rng.randint(0, 4))]
            self.same(together(*parts), self.tried(parts), parts)

    def tried(self, parts):
        for n in range(math.lcm(*[divisor for _, divisor in parts])):
            if all((n - remainder) % divisor == 0 for remainder, divisor in parts):
                return n
        return None

    def test_together_of_great_parts(self):
        rng = dice(4)
        factor = 10 ** 60 + 7
        for _ in range(20):
            wanted = rng.randint(0, 10 ** 300)
            divisors = [factor * rng.randint(1, 10 ** 59) for _ in range(50)]
            whole = math.lcm(*divisors)
            self.same(together(*[(wanted % divisor, divisor) for divisor in divisors]), wanted % whole)
            self.same(together(*[(wanted % divisor - 5 * divisor, divisor) for divisor in divisors]), wanted % whole)
            bad = [(wanted % divisor, divisor) for divisor in divisors]
            bad[7] = (bad[7][0] + 1, bad[7][1])
            self.same(together(*bad), None)

    def test_together_wrong(self):
        for value in others(is_part) + [(1, 0), (1, -1), (1, True), (False, 2), [1, 2], (1, 2, 3), (1,), "12"]:
            self.raises(BadNumber(value), together, value)
            self.raises(BadNumber(value), together, (1, 2), value, (1, 0))
            self.raises(BadNumber(value), together, (0, 2), (1, 2), value, None)


if __name__ == "__main__":
    unittest.main()
