"""Keys spread over rooms: how many there are, how much spills, how far one looks."""

from tailrooms.bits import room_of
from tailrooms.rows import looked, rows_behind, rows_for, rows_of


def spread(keys, rooms):
    """For each room the rising list of its keys."""
    told = [[] for room in range(rooms)]
    for key in sorted(keys):
        told[room_of(key, rooms)].append(key)
    return told


def counts(keys, rooms):
    """For each room how many keys it has."""
    return [len(own) for own in spread(keys, rooms)]


def spill(counts, wide):
    """How many rows stand behind the first ones of rooms with so many keys."""
    return sum([rows_behind(many, wide) for many in counts])


def longest(counts, wide):
    """The tuple (rows, room): the greatest number of rows of a room, and the first room that has so many."""
    many = [rows_for(count, wide) for count in counts]
    most = max(many)
    return (most, many.index(most))


def all_looks(keys, rooms, wide):
    """The list of tuples (key, looks), rising: how many rows are looked at to find each key."""
    rows = [rows_of(own, wide) for own in spread(keys, rooms)]
    return [(key, looked(rows[room_of(key, rooms)], key)[1]) for key in sorted(keys)]
