"""Shelves: wheels that can be bought, by their names and prices."""

from wheelreach.errors import BadDeed, BadShelf, NoName, Nothing, ReachError, TooMany
from wheelreach.meters import Meter
from wheelreach.numbers import is_between
from wheelreach.wheels import Wheel
from wheelreach.words import is_name

MOST_NAMES = 8
MOST_PRICE = 10 ** 12


class Shelf:
    """At most 8 names, each with a wheel and a price; at first none."""

    def __init__(self):
        self._items = {}
        self._names = ()
        self._past = ()
        self._ahead = ()

    @property
    def can_undo(self):
        """How many deeds can still be taken back."""
        return len(self._past)

    @property
    def can_redo(self):
        """How many deeds can still be done again."""
        return len(self._ahead)

    def __len__(self):
        return len(self._names)

    def __iter__(self):
        return iter(self._names)

    def __contains__(self, value):
        return isinstance(value, str) and value in self._names

    def __getitem__(self, at):
        if at not in self:
            raise NoName(at)
        return self._items[at]

    def __setitem__(self, at, worth):
        self._done(with_item(self._items, at, worth))

    def __eq__(self, other):
        return isinstance(other, Shelf) and self._items == other._items

    def drop(self, name):
        """The name goes."""
        if name not in self:
            raise NoName(name)
        self._done({other: self._items[other] for other in self._names if other != name})

    def stock(self, *rows):
        """Sets each row of a name, a wheel and a price, or none of them; one deed."""
        items = self._items
        for at, row in enumerate(rows):
            try:
                items = with_row(items, row)
            except ReachError as why:
                raise BadDeed(at) from why
        self._done(items)

    def _done(self, items):
        """Does a deed by which the shelf has these items."""
        self._past = (*self._past, self._items)
        self._ahead = ()
        self._hold(items)

    def _hold(self, items):
        """The shelf has these items from now on."""
        self._items = items
        self._names = tuple(sorted(list(items)))

    def undo(self):
        """Takes back the last deed that is not taken back."""
        if not self._past:
            raise Nothing()
        self._ahead = (*self._ahead, self._items)
        self._hold(self._past[-1])
        self._past = self._past[:-1]

    def redo(self):
        """Does the deed again that was taken back last."""
        if not self._ahead:
            raise Nothing()
        self._past = (*self._past, self._items)
        self._hold(self._ahead[-1])
        self._ahead = self._ahead[:-1]

    def cost(self, *names):
        """The sum of the prices of these names."""
        need_names(self, names)
        return sum([self._items[name][1] for name in names])

    def chosen(self, *names, off=0, more=0, lost=0):
        """The Meter of the wheels of these names, in their order."""
        need_names(self, names)
        wheels = [self._items[name][0] for name in names]
        return Meter(*wheels, off=off, more=more, lost=lost)

    def twin(self):
        """An equal Shelf that goes its own way, with nothing to take back."""
        shelf = Shelf()
        shelf._hold(self._items)
        return shelf


def with_item(items, name, item):
    """The items with one more, or with this one in the place of that of the name; raises errors for any values."""
    if not is_name(name):
        raise BadShelf("name")
    if not isinstance(item, tuple) or len(item) != 2:
        raise BadShelf("item")
    wheel, price = item
    if not isinstance(wheel, Wheel):
        raise BadShelf("wheel")
    if not is_between(price, 0, MOST_PRICE):
        raise BadShelf("price")
    if name not in items and len(items) == MOST_NAMES:
        raise TooMany("names", MOST_NAMES)
    return {**items, name: item}


def with_row(items, row):
    """The items with that of a row of a name, a wheel and a price, any value."""
    if not isinstance(row, tuple) or len(row) != 3:
        raise BadShelf("row")
    name, wheel, price = row
    return with_item(items, name, (wheel, price))


def need_names(shelf, names):
    """Raises an error unless names, any values, are all on the shelf, none of them twice."""
    for name in names:
        if name not in shelf:
            raise NoName(name)
    for at, name in enumerate(names):
        if name in names[:at]:
            raise BadShelf("names")
