"""Stairs: what more slip costs, step by step."""

from wheelreach.bounds import need_between, need_reach, need_window
from wheelreach.meters import need_meter
from wheelreach.papers import Paper
from wheelreach.reaches import reach_of, sure

MOST_STEPS = 60


class Slip(Paper):
    """How much slip more a meter bears, with what shows that it is sure with it, and not with one more."""

    def __init__(self, k, certificate, counterexample):
        self.k = k
        self.certificate = certificate
        self.counterexample = counterexample

    def __bool__(self):
        return bool(self.k != -1)

    def __eq__(self, other):
        if not isinstance(other, Slip) or self.k != other.k:
            return False
        return self.certificate == other.certificate and self.counterexample == other.counterexample


def need_steps(meter, most):
    """Raises BadNumber for any value that is no number of steps, and what the meter that is wider by it raises."""
    need_between(most, 0, MOST_STEPS)
    meter.wider(most)


def stairs(meter, window, most):
    """The greatest reaches of the meter that is wider by 0, 1 and so on, up to most."""
    need_meter(meter)
    need_window(window)
    need_steps(meter, most)
    for k in range(most + 1):
        yield reach_of(meter.wider(k), window)


def greatest_slip(meter, reach, window, most):
    """The Slip with the greatest k up to most for which the meter that is wider by k is sure."""
    need_meter(meter)
    need_reach(reach)
    need_window(window)
    need_steps(meter, most)
    certificate = None
    for k in range(most + 1):
        answer = sure(meter.wider(k), reach, window)
        if not answer:
            return Slip(k - 1, certificate, answer)
        certificate = answer
    return Slip(most, certificate, None)
