"""words.py: integers and words of texts."""

import unittest

from helpers import Case
from wheelreach.errors import BadText
from wheelreach.words import Words, integer_in, integer_text, mark_words, number_in, number_text


class Numbers(Case):
    def test_number_in(self):
        for number in (0, 1, 9, 10, 120, 10 ** 64, 10 ** 119, 10 ** 120 - 1):
            self.same(number_in(str(number)), number)
        for word in ("", "-0", "+1", "01", "00", " 1", "1 ", "1\n", "1_0", "1.0", "1e3", "0x1", "-1", str(10 ** 120),
                     "1" * 5000, "\u0663", "\u00b2", "\uff11"):
            self.same(number_in(word), None)

    def test_integer_in(self):
        for number in (0, 1, 120, 10 ** 120 - 1, -1, -10, -120, 1 - 10 ** 120):
            self.same(integer_in(str(number)), number)
        for word in ("", "-", "-0", "--1", "+1", "- 1", "-01", "1-", "-1 ", "-x", "-" + str(10 ** 120), str(10 ** 120)):
            self.same(integer_in(word), None)

    def test_mark_words(self):
        self.same([mark_words((40, None, 7)), mark_words([None]), mark_words((10 ** 119,))],
                  ["40 - 7", "-", "1" + "0" * 119])

    def test_number_text(self):
        for digits in (*range(1, 130), 1000, 4000):
            for number in (10 ** digits - 1, 10 ** digits, 10 ** digits + 7 * 10 ** (digits // 2)):
                self.same(number_text(number), str(number))
        self.same((number_text(0), len(number_text(10 ** 9000 + 3)), number_text(10 ** 9000)),
                  ("0", 9001, "1" + "0" * 9000))

    def test_integer_text(self):
        for number in (0, 7, -7, 10 ** 120, -10 ** 120):
            self.same(integer_text(number), str(number))
        self.same(integer_text(-10 ** 9000), "-1" + "0" * 9000)


class Taking(Case):
    def test_lines_and_words(self):
        words = Words("a 7  b", 3)
        self.same((words.upcoming(), words.take("b", "a"), words.upcoming()), ("a", "a", "7"))
        self.raises(BadText(3, 1), words.take, "8")
        self.raises(BadText(3, 1), words.take_number, 8, 9)
        self.same(words.take_number(7, 7), 7)
        for work in (words.take, words.finish):
            self.raises(BadText(3, 2), work)
        self.same((words.take(""), words.take("b"), words.upcoming(), words.finish()), ("", "b", None, None))
        self.raises(BadText(3, 4), words.take, "b")
        self.raises(BadText(3, 4), words.take_number, 0, 9)
        words = Words("- 7 -7 -7 -", 2)
        self.same([words.take_mark(), words.take_mark(), words.take_integer()], [None, 7, -7])
        for work in (words.take_mark, words.take_whole):
            self.raises(BadText(2, 3), work)
        self.same(words.take_integer(), -7)
        for work in (words.take_integer, words.take_whole):
            self.raises(BadText(2, 4), work)
        self.same(words.take_mark(), None)
        for work in (words.take_mark, words.take_integer, words.take_whole):
            self.raises(BadText(2, 5), work)
        self.raises(BadText(5, 0), Words, 7, 5)
        self.raises(BadText(0, 0), Words, ["a"])


if __name__ == "__main__":
    unittest.main()
