"""A look at what tells whether one meter tells no less than another one; nothing is joined here."""

from wheelreach.compared import Fails, Holds, need_both
from wheelreach.look_joins import are_tables
from wheelreach.numbers import is_from, multiple
from wheelreach.reaches import nears_of
from wheelreach.rounds import size_of
from wheelreach.sums import shared_by


def shows_no_less(one, other, value):
    """Whether any value is a right Holds or a right Fails for these meters."""
    need_both(one, other)
    if isinstance(value, Fails):
        return is_from(value.d, 1) and one.is_blind(value.d) and not other.is_blind(value.d)
    return isinstance(value, Holds) and shows_held(one, other, value.tables)


def shows_held(one, other, tables):
    """Whether tables, any value, are those of what is blind for one, and all of that is blind for other."""
    if not are_tables(tables, nears_of(one)):
        return False
    for wheel in other:
        if not lies_within(tables[-1], wheel.near):
            return False
    return True


def lies_within(table, lot):
    """Whether all members of a table lie in a lot: both share as many as the table has, in as many rounds."""
    period, runs = table
    rounds = multiple(period, lot.period) // period
    return shared_by(table, (lot.period, lot.runs)) == rounds * size_of(runs)
