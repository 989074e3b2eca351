"""Gears: trains of shafts that turn one another, and the meters that read them."""

from wheelreach.bounds import need_between
from wheelreach.errors import BadGear, BadText, BadValue, BadWheel, NoPlace, TooMany
from wheelreach.meters import Meter
from wheelreach.numbers import common, is_between, is_whole, multiple
from wheelreach.reaches import reach_of
from wheelreach.wheels import Grid, Wheel
from wheelreach.words import Words

MOST_PART = 10 ** 6
MOST_TEETH = 1000
MOST_GEARS = 6
WIDEST = 10 ** 40 * 10 ** 40


class Train:
    """Shafts that turn one another; the main one turns once when the value grows by the period."""

    def __init__(self, period, *gears, slip=(0, 1)):
        if not is_between(period, 1, MOST_PART):
            raise BadGear("period")
        if not is_fraction(slip):
            raise BadGear("slip")
        need_gears(gears)
        self._gears = tuple([(on, driving, driven, least_terms(*part)) for on, driving, driven, part in gears])
        self.periods = periods_of(period, gears)
        self.slips = (least_terms(*slip), *[gear[3] for gear in self._gears])
        bottoms = [bottom for top, bottom in self.periods + self.slips]
        self.unit = multiple(*bottoms)

    @staticmethod
    def read(text):
        """The Train with this text."""
        words = Words(text)
        train = take_train(words)
        words.finish()
        return train

    @property
    def again(self):
        """The least integer from 1 on that is a multiple of all periods."""
        tops = [top for top, bottom in self.periods]
        return multiple(*tops)

    def __len__(self):
        return len(self.periods)

    def __iter__(self):
        return iter(self.periods)

    def __getitem__(self, at):
        if not is_between(at, 0, len(self.periods) - 1):
            raise NoPlace(at)
        return self.periods[at]

    def __add__(self, other):
        period, gears, slip = self.periods[0][0], (*self._gears, other), self.slips[0]
        return Train(period, *gears, slip=slip)

    def __eq__(self, other):
        return isinstance(other, Train) and self.periods == other.periods and self.slips == other.slips

    def __str__(self):
        top, bottom = self.slips[0]
        rows = [gear_words(gear) for gear in self._gears]
        return " ; ".join([f"train {self.periods[0][0]} {top} {bottom}", *rows])

    def stands(self, value):
        """For each shaft what is left of the value by its period."""
        if not is_whole(value):
            raise BadValue(value)
        return tuple([least_terms(value * bottom % top, bottom) for top, bottom in self.periods])


def is_fraction(value):
    """Whether any value is a fraction that can be passed."""
    if not isinstance(value, tuple) or len(value) != 2:
        return False
    return is_between(value[0], 0, MOST_PART) and is_between(value[1], 1, MOST_PART)


def least_terms(top, bottom):
    """The fraction in least terms."""
    shared = common(top, bottom)
    return (top // shared, bottom // shared)


def is_gear(value, ahead):
    """Whether any value is a gear on one of so many shafts ahead of it."""
    if not isinstance(value, tuple) or len(value) != 4:
        return False
    on, driving, driven, slip = value
    if not is_between(on, 0, ahead - 1) or not is_fraction(slip):
        return False
    return is_between(driving, 1, MOST_TEETH) and is_between(driven, 1, MOST_TEETH)


def need_gears(gears):
    """Raises what a Train raises for its gears, any values."""
    if len(gears) > MOST_GEARS:
        raise TooMany("gears", MOST_GEARS)
    for at, gear in enumerate(gears):
        if not is_gear(gear, at + 1):
            raise BadGear(at)


def periods_of(period, gears):
    """The periods of the main shaft and of those of the gears."""
    periods = [(period, 1)]
    for on, driving, driven, _ in gears:
        top, bottom = periods[on]
        periods.append(least_terms(top * driven, bottom * driving))
    return tuple(periods)


def gear_words(gear):
    """The words of a gear in the text of its train."""
    on, driving, driven, slip = gear
    return f"{on} {driving} {driven} {slip[0]} {slip[1]}"


def take_train(words):
    """The Train whose words come next."""
    words.take("train")
    period = words.take_number(1, MOST_PART)
    slip = take_fraction(words)
    gears = []
    while len(gears) < MOST_GEARS and words.upcoming() is not None:
        words.take(";")
        gears.append(take_gear(words, len(gears)))
    return Train(period, *gears, slip=slip)


def take_gear(words, last):
    """The gear whose words come next, on a shaft up to the last one ahead of it."""
    on = words.take_number(0, last)
    driving = words.take_number(1, MOST_TEETH)
    driven = words.take_number(1, MOST_TEETH)
    return (on, driving, driven, take_fraction(words))


def take_fraction(words):
    """The fraction in least terms whose words come next."""
    top = words.take_number(0, MOST_PART)
    bottom = words.take_number(1, MOST_PART)
    if common(top, bottom) != 1:
        raise BadText(words.line, words.at - 1)
    return (top, bottom)


def shaft_wheel(period, slip, unit):
    """The wheel of a shaft, of which so many finer units are one unit."""
    wide = slip[0] * unit // slip[1]
    return Wheel(period[0] * unit // period[1], wide, wide)


def meter_of(train, off=0, more=0, lost=0):
    """The Meter that reads the value in finer units: a wheel for each shaft, and a Grid of the whole units."""
    if not isinstance(train, Train):
        raise BadGear("train")
    wheels = []
    for at, (period, slip) in enumerate(zip(train.periods, train.slips)):
        try:
            wheels.append(shaft_wheel(period, slip, train.unit))
        except BadWheel as why:
            raise BadGear(at) from why
    if train.unit > 1:
        wheels.append(Grid(train.unit))
    return Meter(*wheels, off=off, more=more, lost=lost)


def reach_in(train, window, off=0, more=0, lost=0):
    """The greatest reach, in units, for a window in units."""
    meter = meter_of(train, off, more, lost)
    need_between(window, 0, WIDEST)
    # what is blind is a multiple of the unit, by its Grid
    return reach_of(meter, window * train.unit) // train.unit
