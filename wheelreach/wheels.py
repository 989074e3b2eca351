"""Wheels: each one shows a value modulo its period, wrong by at most its slips."""

from wheelreach.errors import BadNumber, BadValue, BadWheel
from wheelreach.lots import Lot
from wheelreach.numbers import apart, is_between, is_whole
from wheelreach.words import Words

MOST_PERIOD = 10 ** 12


class Wheel:
    """A wheel that can show each mark from the value - back to the value + ahead, modulo its period."""

    TRUSTED = False

    def __init__(self, period, back, ahead):
        need_part(period, 2, "period")
        need_part(back, 0, "back")
        need_part(ahead, 0, "ahead")
        self.period = period
        self.back = back
        self.ahead = ahead

    @staticmethod
    def read(text):
        """The Wheel or the Grid with this text."""
        words = Words(text)
        wheel = take_wheel(words)
        words.finish()
        return wheel

    @property
    def trusted(self):
        """Whether it is never lost and never off."""
        return self.TRUSTED

    @property
    def play(self):
        """Both slips together."""
        return self.back + self.ahead

    @property
    def never_parts(self):
        """Whether it parts no difference at all."""
        return 2 * self.play + 1 >= self.period

    @property
    def near(self):
        """The Lot of the differences that it does not part."""
        return Lot.around(self.period, self.play)

    def __call__(self, value):
        need_value(value)
        return value % self.period

    def __eq__(self, other):
        if not isinstance(other, Wheel) or self.TRUSTED != other.TRUSTED:
            return False
        return self.period == other.period and self.back == other.back and self.ahead == other.ahead

    def __str__(self):
        if self.TRUSTED:
            return f"grid {self.period}"
        return f"wheel {self.period} {self.back} {self.ahead}"

    def __mul__(self, n):
        if not is_between(n, 1, MOST_PERIOD):
            raise BadNumber(n)
        if self.TRUSTED:
            return Grid(self.period * n)
        return Wheel(self.period * n, self.back * n, self.ahead * n)

    def each_mark(self, value):
        """The marks that it can show at a value, each once, from that of value - back on."""
        need_value(value)
        for step in range(min(self.play + 1, self.period)):
            yield (value - self.back + step) % self.period

    def lets(self, value, mark):
        """Whether any value of mark is a mark that it can show at a value."""
        need_value(value)
        return is_between(mark, 0, self.period - 1) and (mark - value + self.back) % self.period <= self.play

    def shown_by(self, mark):
        """The Lot of the values at which it can show a mark."""
        if not is_between(mark, 0, self.period - 1):
            raise BadNumber(mark)
        return Lot(self.period, (mark - self.ahead, mark + self.back))

    def does_part(self, d):
        """Whether d is farther than the play from each multiple of the period."""
        return apart(d, self.period) > self.play

    def wider(self, k):
        """The wheel with both slips greater by k; a Grid as it is."""
        if not is_between(k, 0, MOST_PERIOD):
            raise BadNumber(k)
        if self.TRUSTED:
            return self
        return Wheel(self.period, self.back + k, self.ahead + k)


class Even(Wheel):
    """A wheel with the same slip to both sides."""

    def __init__(self, period, slip):
        need_part(period, 2, "period")
        need_part(slip, 0, "slip")
        super().__init__(period, slip, slip)


class Exact(Wheel):
    """A wheel without slips."""

    def __init__(self, period):
        super().__init__(period, 0, 0)


class Lagging(Wheel):
    """A wheel that can only lag behind the value."""

    def __init__(self, period, lag):
        need_part(period, 2, "period")
        need_part(lag, 0, "lag")
        super().__init__(period, lag, 0)


class Grid(Wheel):
    """A wheel without slips that is trusted."""

    TRUSTED = True

    def __init__(self, period):
        super().__init__(period, 0, 0)


def need_part(value, least, part):
    """Raises BadWheel with the name of the part for any value that it cannot have."""
    if not is_between(value, least, MOST_PERIOD):
        raise BadWheel(part)


def need_value(value):
    """Raises BadValue for any value that is no integer."""
    if not is_whole(value):
        raise BadValue(value)


def take_wheel(words):
    """The Wheel or the Grid whose words come next."""
    if words.take("wheel", "grid") == "grid":
        return Grid(words.take_number(2, MOST_PERIOD))
    period = words.take_number(2, MOST_PERIOD)
    back = words.take_number(0, MOST_PERIOD)
    return Wheel(period, back, words.take_number(0, MOST_PERIOD))
