"""Mending: from whatever yard to a clean one."""

from tailrooms.bits import room_of
from tailrooms.changes import onward
from tailrooms.yards import entries_in, rows_at, yard_of


def mended(yard):
    """The clean yard of the entries that stand in their keys' rooms; of several with one key of the first one met."""
    wide, rooms, held = yard
    kept = {}
    for room, rows in enumerate(held[:rooms]):
        for key, thing in entries_in(rows):
            if room_of(key, rooms) == room:
                kept.setdefault(key, thing)
    return yard_of(wide, rooms, list(kept.items()))


def mending(yard):
    """The steps that lead from the yard to the mended one."""
    wide, rooms, held = yard
    steps = []
    for room, rows in enumerate(mended(yard)[2]):
        steps += onward(room, rows_at(held, room), rows)
    further = [room for room in range(rooms, len(held)) if held[room]]
    return steps + [("cut", room, 0) for room in further[::-1]]
