"""What the lines that change a desk do: each one makes what stands on the desk behind it of what stood there.

What stands on a desk is a tuple of its meter, its follower and its shelf. None of them is changed: a follower or a
shelf is changed by what is done to a twin.
"""

from wheelreach.follower import Follower
from wheelreach.meters import made_like


def lay_meter(held, meter):
    """Another meter."""
    return (meter, held[1], held[2])


def add_wheel(held, wheel):
    """A wheel more, behind the others."""
    meter = held[0]
    return lay_meter(held, meter + made_like(meter, [wheel]))


def leave_wheels(held, places):
    """The meter without these wheels."""
    return lay_meter(held, held[0].without(*places))


def widen(held, k):
    """The meter wider by k."""
    return lay_meter(held, held[0].wider(k))


def multiply(held, n):
    """The meter n times."""
    return lay_meter(held, held[0] * n)


def number_anew(held, off, more, lost):
    """The meter with these numbers."""
    return lay_meter(held, held[0].with_numbers(off, more, lost))


def follow(held, far):
    """A new Follower of the meter."""
    return (held[0], Follower(held[0], far), held[2])


def hear(held, marks):
    """A reading of the follower."""
    twin = held[1].twin()
    twin.hear(marks)
    return (held[0], twin, held[2])


def move(held, back, ahead):
    """A move of the follower."""
    twin = held[1].twin()
    twin.move(back, ahead)
    return (held[0], twin, held[2])


def put_wheel(held, name, price, wheel):
    """The shelf has this wheel."""
    twin = held[2].twin()
    twin[name] = (wheel, price)
    return (held[0], held[1], twin)


def drop_wheel(held, name):
    """The shelf has it no more."""
    twin = held[2].twin()
    twin.drop(name)
    return (held[0], held[1], twin)


DEEDS = {
    "meter": lay_meter, "add": add_wheel, "leave": leave_wheels, "wider": widen, "times": multiply,
    "numbers": number_anew, "follow": follow, "hear": hear, "move": move, "put": put_wheel, "drop": drop_wheel,
}
