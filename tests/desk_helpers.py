"""Desks, and what a desk must do by methods of meters, followers and shelves."""

from meter_helpers import random_meter, random_wheel
from reading_helpers import random_reading
from wheelreach.design import cheapest
from wheelreach.desk import Desk
from wheelreach.errors import ReachError
from wheelreach.follower import Follower
from wheelreach.meters import Meter
from wheelreach.nearest import nearest
from wheelreach.reaches import last_blind, next_blind, reach_of, sure
from wheelreach.readings import maybe_off, surely_off, told
from wheelreach.shelf import Shelf
from wheelreach.texts import reading_text, runs_text, shelf_text
from wheelreach.wheels import Exact, Wheel
from wheelreach.windows import least_window

MOST = 10 ** 100
FAR = 10 ** 12
PAIR_TEXT = "wheel 100 1 1 , wheel 90 1 1 ; off 0 more 0 lost 0"
ASKING = ("show", "shelf", "runs", "known", "exact", "blind", "next", "last", "reach", "window", "sure", "told", "off",
          "nearest", "choose")


def places(found):
    return " ".join(map(str, found)) or "-"


def started():
    """A desk with a meter, a follower and a shelf."""
    desk = Desk()
    desk.run(f"meter {PAIR_TEXT}", "follow 1700", "hear 40 70", "put a 3 wheel 7 0 0", "put b 4 wheel 9 0 0",
             "put d 6 wheel 100 1 1")
    return desk


def seen(desk):
    """All that can be seen of a desk, as text, and how many lines can be taken back."""
    return (desk.text_now(), len(desk))


def moments(desk):
    """What stands on the desk as all lines are taken back and done again; it is as it was behind this."""
    rows = []
    back = 0
    while desk("undo") == "ok":
        back += 1
        rows.append(desk.text_now())
    again = 0
    while desk("redo") == "ok":
        again += 1
        rows.append(desk.text_now())
    for _ in range(again - back):
        desk("undo")
    return rows


class Model:
    """What a desk must do, by methods of meters, followers and shelves."""

    def __init__(self):
        self.meter, self.follower, self.shelf = None, None, Shelf()
        self.past, self.ahead = [], []

    def now(self):
        twin = None if self.follower is None else self.follower.twin()
        return (self.meter, twin, self.shelf.twin())

    def put_back(self, held):
        self.meter, self.follower, self.shelf = held

    def do(self, work, answer=lambda: "ok"):
        """A line that changes something, or is refused."""
        then = self.now()
        try:
            work()
        except ReachError as error:
            self.put_back(then)
            return "refused " + type(error).__name__
        self.past.append(then)
        self.ahead = []
        return answer()

    def ask(self, work):
        try:
            return work()
        except ReachError as error:
            return "refused " + type(error).__name__

    def undo(self):
        if not self.past:
            return "nothing"
        self.ahead.append(self.now())
        self.put_back(self.past.pop())
        return "ok"

    def redo(self):
        if not self.ahead:
            return "nothing"
        self.past.append(self.now())
        self.put_back(self.ahead.pop())
        return "ok"

    def set_meter(self, make):
        if self.meter is None:
            return "refused Nothing"

        def work():
            self.meter = make(self.meter)
        return self.do(work)

    def say(self, word, *rest):
        return getattr(self, "say_" + word)(*rest)

    def say_meter(self, text):
        def work():
            self.meter = Meter.read(text)
        return self.do(work)

    def say_add(self, text):
        return self.set_meter(lambda meter: Meter(*meter.wheels, Wheel.read(text), off=meter.off, more=meter.more,
                                                  lost=meter.lost))

    def say_leave(self, *numbers):
        return self.set_meter(lambda meter: meter.without(*numbers))

    def say_wider(self, k):
        return self.set_meter(lambda meter: meter.wider(k))

    def say_times(self, n):
        return self.set_meter(lambda meter: meter * n)

    def say_numbers(self, *numbers):
        return self.set_meter(lambda meter: meter.with_numbers(*numbers))

    def say_follow(self, reach):
        if self.meter is None:
            return "refused Nothing"

        def work():
            self.follower = Follower(self.meter, reach)
        return self.do(work)

    def follow_on(self, work):
        if self.follower is None:
            return "refused Nothing"
        return self.do(work, lambda: runs_text(self.follower.runs))

    def say_hear(self, marks):
        return self.follow_on(lambda: self.follower.hear(marks))

    def say_move(self, back, ahead):
        return self.follow_on(lambda: self.follower.move(back, ahead))

    def say_put(self, name, price, text):
        return self.do(lambda: self.shelf.__setitem__(name, (Wheel.read(text), price)))

    def say_drop(self, name):
        return self.do(lambda: self.shelf.drop(name))

    def say_shelf(self):
        return shelf_text(self.shelf).replace("\n", " ; ")

    def say_choose(self, *numbers):
        def work():
            paper = cheapest(self.shelf, *numbers)
            return str(paper.price) + " : " + " ".join(paper.names) if paper else "none"
        return self.ask(work)

    def of_follower(self, work):
        return "refused Nothing" if self.follower is None else work(self.follower)

    def say_runs(self):
        return self.of_follower(lambda follower: runs_text(follower.runs))

    def say_known(self):
        return self.of_follower(lambda follower: "-" if follower.known is None else str(follower.known))

    def of_meter(self, work):
        return "refused Nothing" if self.meter is None else self.ask(lambda: work(self.meter))

    def say_show(self):
        return self.of_meter(str)

    def say_exact(self, value):
        return self.of_meter(lambda meter: reading_text(meter(value)))

    def say_blind(self, d):
        return self.of_meter(lambda meter: {True: "yes", False: "no"}[meter.is_blind(d)])

    def say_next(self, d):
        return self.of_meter(lambda meter: str(next_blind(meter, d)))

    def say_last(self, d):
        return self.of_meter(lambda meter: str(last_blind(meter, d)))

    def say_reach(self, window):
        return self.of_meter(lambda meter: str(reach_of(meter, window)))

    def say_window(self, reach):
        return self.of_meter(lambda meter: str(least_window(meter, reach)))

    def say_sure(self, reach, window):
        def work(meter):
            paper = sure(meter, reach, window)
            return "sure" if paper else f"unsure {paper.low} {paper.high} : {reading_text(paper.marks)}"
        return self.of_meter(work)

    def say_told(self, reach, window, marks):
        def work(meter):
            paper = told(meter, marks, reach, window)
            name = type(paper).__name__.lower()
            return name if name == "noticed" else f"{name} {paper.low} {paper.high}"
        return self.of_meter(work)

    def say_off(self, reach, marks):
        return self.of_meter(lambda meter: f"{places(surely_off(meter, marks, reach))} / "
                                           f"{places(maybe_off(meter, marks, reach))}")

    def say_nearest(self, reach, marks):
        def work(meter):
            paper = nearest(meter, marks, reach)
            return f"{paper.strain} : {runs_text(paper.runs)}"
        return self.of_meter(work)


def number(rng, most=12):
    return rng.choice([rng.randint(0, most), rng.randint(0, most), rng.randint(0, 40 * most), MOST, 0, FAR + 1])


def small(rng):
    return rng.choice([0, 0, 0, 0, 1, 1, 2, 9])


def wheel_text(rng):
    return str(random_wheel(rng, 14))


def marks_for(rng, model):
    """Mostly a reading of the meter or of the follower."""
    meters = [model.meter, model.follower and model.follower.meter]
    meter = rng.choice([meter for meter in meters if meter is not None] or [Meter(Exact(5))])
    marks = random_reading(rng, meter)
    if rng.random() < 0.1:
        marks = marks[1:] or (None, 5)
    return marks


def random_line(rng, model):
    """The first word and the arguments of a line, and the line."""
    word = rng.choice("meter add leave wider times numbers follow follow hear hear hear move move put put drop undo undo "
                      "redo redo show shelf runs known exact blind next last reach window sure told off nearest choose"
                      .split())
    if word == "meter":
        rest = (str(random_meter(rng, 4, 14)),)
    elif word == "add":
        rest = (wheel_text(rng),)
    elif word == "leave":
        rest = tuple(rng.choice([0, 1, 2, 3, MOST]) for _ in range(rng.randint(1, 3)))
    elif word == "numbers":
        rest = (small(rng), small(rng), small(rng))
    elif word == "hear":
        rest = (marks_for(rng, model),)
    elif word == "move":
        rest = (rng.randint(-3, 9), rng.choice([rng.randint(-3, 9), -MOST, MOST]))
    elif word == "put":
        rest = (rng.choice(["a", "b", "c", "zz"]), rng.choice([0, 1, 2, FAR, FAR + 1]), wheel_text(rng))
    elif word == "drop":
        rest = (rng.choice(["a", "b", "c", "zz"]),)
    elif word in ("wider", "times", "follow", "exact", "blind", "next", "last", "reach", "window"):
        rest = (rng.choice([0, 1, 1, 2, 3, number(rng)]) if word in ("wider", "times") else number(rng, 60),)
    elif word == "sure":
        rest = (number(rng, 60), number(rng, 6))
    elif word == "told":
        rest = (number(rng, 60), number(rng, 6), marks_for(rng, model))
    elif word in ("off", "nearest"):
        rest = (rng.randint(0, 400), marks_for(rng, model))
    elif word == "choose":
        rest = (number(rng), number(rng, 4), small(rng), small(rng), small(rng))
    else:
        rest = ()
    words = [word]
    for part in rest:
        words.append(reading_text(part) if isinstance(part, tuple) else str(part))
    return word, rest, " ".join(words)
