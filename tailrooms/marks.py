"""Marks: turned keys, by which each room's keys lie in one stretch."""

from tailrooms.bits import KEY_BITS, bits_for, room_of, turned
from tailrooms.errors import NoMark
from tailrooms.kinds import is_key, is_whole

END = 2 ** 60


def is_mark(thing):
    """Whether the thing is a whole number from 0 to END."""
    return is_whole(thing) and 0 <= thing <= END


def stretch_of(room, rooms):
    """The tuple (first, behind) of the marks between which the turned keys of just that room lie."""
    first = turned(room)
    return (first, first + (1 << (KEY_BITS - bits_for(room, rooms))))


def line_of(rooms):
    """The rooms in the order of their stretches."""
    return sorted(range(rooms), key=turned)


def room_at(mark, rooms):
    """The room in whose stretch the mark is."""
    # The marks below END are just the turned keys, which are all keys.
    if not is_key(mark):
        raise NoMark(mark)
    return room_of(turned(mark), rooms)
