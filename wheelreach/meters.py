"""Meters: several wheels that are read together, of which some may be off or lost."""

from wheelreach.errors import BadMark, BadMeter, BadNumber, BadValue, NoPlace, TooMany, Unlike
from wheelreach.numbers import is_between, is_whole
from wheelreach.wheels import Wheel, take_wheel
from wheelreach.words import Words

MOST_WHEELS = 8
MOST_OFF = 8


class Meter:
    """From 1 to 8 wheels, and how many of them may be off, be off more, and be lost."""

    def __init__(self, *wheels, off=0, more=0, lost=0):
        need_wheels(wheels)
        need_count(off, "off")
        need_count(more, "more")
        need_count(lost, "lost")
        self.wheels = wheels
        self.off = off
        self.more = more
        self.lost = lost

    @staticmethod
    def read(text):
        """The Meter with this text."""
        words = Words(text)
        meter = take_meter(words)
        words.finish()
        return meter

    @property
    def spare(self):
        """How many wheels may part a difference that is blind."""
        return 2 * self.off + self.more + self.lost

    def __len__(self):
        return len(self.wheels)

    def __iter__(self):
        return iter(self.wheels)

    def __getitem__(self, at):
        if is_whole(at):
            if not 0 <= at < len(self.wheels):
                raise NoPlace(at)
            return self.wheels[at]
        return made_like(self, self.wheels[at])

    def __call__(self, value):
        if not is_whole(value):
            raise BadValue(value)
        return tuple([wheel(value) for wheel in self.wheels])

    def __eq__(self, other):
        if not isinstance(other, Meter) or self.wheels != other.wheels:
            return False
        return self.off == other.off and self.more == other.more and self.lost == other.lost

    def __str__(self):
        return f"{wheel_words(self.wheels)} ; off {self.off} more {self.more} lost {self.lost}"

    def __add__(self, other):
        if not isinstance(other, Meter):
            raise BadMeter("other")
        if (self.off, self.more, self.lost) != (other.off, other.more, other.lost):
            raise Unlike("numbers")
        return made_like(self, self.wheels + other.wheels)

    def __mul__(self, n):
        return made_like(self, [wheel * n for wheel in self.wheels])

    def wider(self, k):
        """With each wheel wider by k."""
        return made_like(self, [wheel.wider(k) for wheel in self.wheels])

    def without(self, *places):
        """Without the wheels of these places."""
        for place in places:
            if not is_between(place, 0, len(self.wheels) - 1):
                raise NoPlace(place)
        return made_like(self, [wheel for at, wheel in enumerate(self.wheels) if at not in places])

    def with_numbers(self, off, more, lost):
        """With these numbers in the place of its own."""
        wheels = self.wheels
        return Meter(*wheels, off=off, more=more, lost=lost)

    def parting(self, d):
        """The places of the wheels that part d."""
        if not is_whole(d):
            raise BadNumber(d)
        return tuple([at for at, wheel in enumerate(self.wheels) if wheel.does_part(d)])

    def is_blind(self, d):
        """Whether no trusted wheel parts d, and at most spare others do."""
        places = self.parting(d)
        for place in places:
            if self.wheels[place].trusted:
                return False
        return len(places) <= self.spare

    def choices(self):
        """The tuples of all trusted wheels and as many others as there are more than spare, by their places."""
        held = [at for at, wheel in enumerate(self.wheels) if wheel.trusted]
        others = [at for at, wheel in enumerate(self.wheels) if not wheel.trusted]
        for some in picks(others, max(0, len(others) - self.spare)):
            yield tuple(sorted(held + some))


def need_wheels(wheels):
    """Raises what a Meter raises for its wheels, any values."""
    for wheel in wheels:
        if not isinstance(wheel, Wheel):
            raise BadMeter("wheels")
    if not wheels:
        raise BadMeter("wheels")
    if len(wheels) > MOST_WHEELS:
        raise TooMany("wheels", MOST_WHEELS)


def need_count(value, part):
    """Raises BadMeter with the name of the number for any value that it cannot have."""
    if not is_between(value, 0, MOST_OFF):
        raise BadMeter(part)


def need_meter(meter):
    """Raises BadMeter for any value that is no Meter."""
    if not isinstance(meter, Meter):
        raise BadMeter("meter")


def made_like(meter, wheels):
    """The Meter of these wheels with the numbers of a meter."""
    return Meter(*wheels, off=meter.off, more=meter.more, lost=meter.lost)


def wheel_words(wheels):
    """The texts of wheels with a comma between two of them."""
    return " , ".join([str(wheel) for wheel in wheels])


def picks(places, many):
    """All lists of so many of the places, in their order, ascending if the places ascend."""
    if many == 0:
        return [[]]
    found = []
    for at in range(len(places) - many + 1):
        for rest in picks(places[at + 1:], many - 1):
            found.append([places[at]] + rest)
    return found


def need_reading(meter, marks):
    """Raises an error unless the marks are a reading of the meter."""
    need_meter(meter)
    if not isinstance(marks, (list, tuple)) or len(marks) != len(meter.wheels):
        raise BadMark(None)
    for at, mark in enumerate(marks):
        wheel = meter.wheels[at]
        if not is_between(mark, 0, wheel.period - 1) and (mark is not None or wheel.trusted):
            raise BadMark(at)
    if how_many_lost(marks) > meter.lost:
        raise BadMark("lost")


def how_many_lost(marks):
    """How many marks are None."""
    return len([mark for mark in marks if mark is None])


def places_off(meter, marks, value):
    """The places of the wheels that have a mark which they cannot show at the value."""
    places = []
    for at, wheel in enumerate(meter):
        if marks[at] is not None and not wheel.lets(value, marks[at]):
            places.append(at)
    return tuple(places)


def take_meter(words):
    """The Meter whose words come next."""
    wheels = [take_wheel(words)]
    while len(wheels) < MOST_WHEELS and words.take(",", ";") == ",":
        wheels.append(take_wheel(words))
    if len(wheels) == MOST_WHEELS:
        words.take(";")
    words.take("off")
    off = words.take_number(0, MOST_OFF)
    words.take("more")
    more = words.take_number(0, MOST_OFF)
    words.take("lost")
    lost = words.take_number(0, MOST_OFF)
    return Meter(*wheels, off=off, more=more, lost=lost)
