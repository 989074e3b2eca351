"""A look at a Slip; nothing is joined here."""

from wheelreach.bounds import need_reach, need_window
from wheelreach.look_reaches import shows_sure
from wheelreach.meters import need_meter
from wheelreach.numbers import is_between
from wheelreach.reaches import Sure, Unsure
from wheelreach.stairs import Slip, need_steps


def shows_slip(meter, reach, window, most, value):
    """Whether any value is a right Slip for this meter, reach, window and most."""
    need_meter(meter)
    need_reach(reach)
    need_window(window)
    need_steps(meter, most)
    if not isinstance(value, Slip) or not is_between(value.k, -1, most):
        return False
    return bears(meter, reach, window, value) and bears_no_more(meter, reach, window, most, value)


def bears(meter, reach, window, slip):
    """Whether the certificate shows that the meter bears k more; without any for k -1."""
    found = slip.certificate
    if slip.k == -1:
        return found is None
    return isinstance(found, Sure) and shows_sure(meter.wider(slip.k), reach, window, found)


def bears_no_more(meter, reach, window, most, slip):
    """Whether the counterexample shows that the meter does not bear k + 1 more; without any where k is most."""
    found = slip.counterexample
    if slip.k == most:
        return found is None
    return isinstance(found, Unsure) and shows_sure(meter.wider(slip.k + 1), reach, window, found)
