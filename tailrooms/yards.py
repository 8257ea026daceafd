"""Yards: tuples (wide, rooms, held) of rooms with rows of entries; and the steps that lead from one to another."""

from tailrooms.bits import room_of
from tailrooms.rows import cut_rows, looked
from tailrooms.spread import spread


def yard_of(wide, rooms, entries):
    """The clean yard of entries with unlike keys."""
    things = dict(entries)
    held = [[(key, things[key]) for key in own] for own in spread(list(things), rooms)]
    return (wide, rooms, [cut_rows(own, wide) for own in held])


def is_clean(yard):
    """Whether the yard is the clean one of some entries."""
    wide, rooms, held = yard
    # Where a key stands twice the clean yard has it but once, so it isn't this one.
    return yard_of(wide, rooms, all_entries(yard)) == yard


def entries_in(rows):
    """All entries of the rows, in their order."""
    return [entry for row in rows for entry in row]


def all_entries(yard):
    """All entries of the yard, room by room and row by row."""
    return [entry for rows in yard[2] for entry in entries_in(rows)]


def rows_at(held, room):
    """The rows of a room; none where held has no such room."""
    return held[room] if room < len(held) else []


def done(yard, step):
    """The yard behind a step."""
    return done_all(yard, [step])


def done_all(yard, steps):
    """The yard behind several steps, one after another."""
    wide, rooms, held = yard
    # The steps are done to a copy, rows too, so that the yard that was handed in stays as it was.
    fresh = [[list(row) for row in rows] for rows in held]
    for step in steps:
        if step[0] == "row":
            lay_row(fresh, step[1], step[2], step[3])
        elif step[0] == "cut":
            cut_room(fresh, step[1], step[2])
        else:
            rooms = step[1]
        leave_last_rooms(fresh)
    return (wide, rooms, fresh)


def lay_row(held, room, at, row):
    """Lays the row at its place, with rooms without rows and rows without entries ahead of it where they lack."""
    while len(held) <= room:
        held.append([])
    rows = held[room]
    while len(rows) <= at:
        rows.append([])
    rows[at] = list(row)


def cut_room(held, room, many):
    """Leaves only the first so many rows of the room."""
    if room < len(held):
        held[room] = held[room][:many]


def leave_last_rooms(held):
    """Takes the last rooms that are without rows away."""
    while held and not held[-1]:
        held.pop()


def found(yard, key):
    """The tuple (thing, looks) of a look for the key through its room's rows; thing is None where it isn't there."""
    wide, rooms, held = yard
    own = rows_at(held, room_of(key, rooms))
    there, looks = looked([[entry[0] for entry in row] for row in own], key)
    if not there:
        return (None, looks)
    return (dict(own[looks - 1])[key], looks)
