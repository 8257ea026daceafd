"""Walks through all keys of a table, by their turned keys, while it grows and shrinks."""

from tailrooms.bits import turned
from tailrooms.errors import NoMark
from tailrooms.kinds import is_whole
from tailrooms.marks import END, is_mark, room_at, stretch_of


def page(table, mark):
    """The tuple (entries, onward) of the room at the mark: its entries from the mark on, and where to go on."""
    rooms = table.rooms()
    onward = stretch_of(room_at(mark, rooms), rooms)[1]
    # No other room's keys are turned to within this room's stretch.
    return (between(table.entries(), mark, onward), onward)


def between(entries, mark, onward):
    """The entries whose turned keys are from mark on, ahead of onward, in the order of these."""
    within = [entry for entry in entries if mark <= turned(entry[0]) < onward]
    return sorted(within, key=lambda entry: turned(entry[0]))


def walked(table):
    """The entries of all pages of a walk through the table as it is."""
    return between(table.entries(), 0, END)


def ahead(table, mark):
    """How many keys a walk has still to come by from the mark on."""
    if not is_mark(mark):
        raise NoMark(mark)
    return len(between(table.entries(), mark, END))


def is_walk(entries, thing):
    """Whether the thing, whatever it is, is a list of the pages of a walk that tells just the entries."""
    if not isinstance(thing, list):
        return False
    mark = 0
    for told in thing:
        if not is_page(entries, mark, told):
            return False
        mark = told[2]
    # Without any page the mark is still 0.
    return mark == END


def is_page(entries, mark, thing):
    """Whether the thing is a tuple of that mark, its entries, and a greater mark to go on with."""
    if not isinstance(thing, tuple) or len(thing) != 3:
        return False
    first, own, onward = thing
    if not is_whole(first) or not is_whole(onward) or first != mark or onward <= mark:
        return False
    if not isinstance(own, list) or not all([is_like_entry(entry) for entry in own]):
        return False
    return own == between(entries, mark, onward)


def is_like_entry(thing):
    """Whether the thing is a tuple of a whole number and something more."""
    # To Python True is 1, so an entry must be held against another one with its number looked at.
    return isinstance(thing, tuple) and len(thing) == 2 and is_whole(thing[0])
