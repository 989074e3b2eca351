"""Joins: what lies in all of several lots, with a table for each step."""

from wheelreach.errors import BadLot
from wheelreach.lots import Lot
from wheelreach.meets import meet
from wheelreach.papers import Paper
from wheelreach.rounds import ALL
from wheelreach.sums import shared_by


class Join(Paper):
    """Table j is the period and the runs of what lies in all of the first j + 1 lots."""

    def __init__(self, tables):
        self.tables = tables

    def __eq__(self, other):
        return isinstance(other, Join) and self.tables == other.tables


def meeting(one, other):
    """How many members both lots have from 0 on, below the least common multiple of their periods."""
    if not isinstance(one, Lot):
        raise BadLot("one")
    if not isinstance(other, Lot):
        raise BadLot("other")
    return shared_by((one.period, one.runs), (other.period, other.runs))


def need_lots(lots):
    """Raises BadLot with the index of the first one that is no Lot."""
    for at, lot in enumerate(lots):
        if not isinstance(lot, Lot):
            raise BadLot(at)


def next_table(table, lot):
    """The table behind a table: what lies in it and in the lot."""
    return meet(table, (lot.period, lot.runs))


def join(*lots):
    """The Join of the lots."""
    need_lots(lots)
    return Join(tables_along(lots, tuple(range(len(lots))), {}))


def tables_along(lots, places, known):
    """The tables of the join of the lots at these places; known keeps each table by the places behind it."""
    tables = []
    table = ALL
    for many in range(1, len(places) + 1):
        ahead = places[:many]
        if ahead not in known:
            known[ahead] = next_table(table, lots[ahead[-1]])
        table = known[ahead]
        tables.append(table)
    return tuple(tables)


def rows_of(lots, choices, known):
    """For each choice the tables of the join of the lots at its places; known as in tables_along."""
    return tuple([tables_along(lots, choice, known) for choice in choices])


def joined(*lots):
    """The Lot of what lies in all lots."""
    tables = join(*lots).tables
    if not tables:
        return Lot.every()
    period, runs = tables[-1]
    return Lot(period, *runs)
