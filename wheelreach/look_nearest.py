"""A look at a Nearest; nothing is solved here."""

from wheelreach.bounds import need_reach
from wheelreach.look_readings import are_fit_joins, shown_cover
from wheelreach.meters import need_reading
from wheelreach.nearest import MOST_STRAIN, Nearest
from wheelreach.numbers import is_between
from wheelreach.readings import MOST_FITS
from wheelreach.rounds import is_run


def shows_nearest(meter, marks, reach, value):
    """Whether any value is the Nearest of this reading and this reach."""
    need_reading(meter, marks)
    need_reach(reach)
    if not isinstance(value, Nearest) or not is_between(value.strain, 0, MOST_STRAIN):
        return False
    return shows_none_with_less(meter, marks, reach, value) and shows_all_with_it(meter, marks, reach, value)


def shows_none_with_less(meter, marks, reach, found):
    """Whether the tables for one less are right, and show that no value within the reach has so little strain."""
    if found.strain == 0:
        return isinstance(found.less, tuple) and len(found.less) == 0
    k = found.strain - 1
    if not are_fit_joins(meter, marks, k, found.less):
        return False
    return not shown_cover(meter, marks, k, found.less).has_between(0, reach - 1)


def shows_all_with_it(meter, marks, reach, found):
    """Whether the tables for the strain are right, and show that just the values of the runs have it."""
    if not are_some_runs(found.runs) or not are_fit_joins(meter, marks, found.strain, found.tables):
        return False
    cover = shown_cover(meter, marks, found.strain, found.tables)
    return found.runs == tuple(cover.runs_within(0, reach - 1, MOST_FITS + 1))


def are_some_runs(value):
    """Whether any value is a tuple of runs, from one to as many as are let."""
    if not isinstance(value, tuple) or not 1 <= len(value) <= MOST_FITS:
        return False
    for run in value:
        if not is_run(run):
            return False
    return True
