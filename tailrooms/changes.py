"""Changes of clean yards, as lists of steps behind each of which all that stands is found."""

from tailrooms.bits import joined_of, room_of, split_of
from tailrooms.errors import Lacking, NoRoom
from tailrooms.rows import cut_rows
from tailrooms.yards import entries_in, rows_at


def unlike_rows(room, old, new):
    """The steps for those of the new rows that aren't what stands there, from the first to the last."""
    return [("row", room, at, row) for at, row in enumerate(new) if at >= len(old) or old[at] != row]


def onward(room, old, new):
    """The steps that rewrite a room's rows from the first to the last, and then cut what is left behind them."""
    steps = unlike_rows(room, old, new)
    if len(old) > len(new):
        steps.append(("cut", room, len(new)))
    return steps


def backward(room, old, new):
    """The steps that rewrite a room's rows from the last to the first, where there are no fewer rows then."""
    return unlike_rows(room, old, new)[::-1]


def splitting(yard):
    """The steps by which there is one room more."""
    wide, rooms, held = yard
    room, new = split_of(rooms)
    own = entries_in(rows_at(held, room))
    goes = [entry for entry in own if room_of(entry[0], rooms + 1) == new]
    stays = [entry for entry in own if room_of(entry[0], rooms + 1) == room]
    steps = onward(new, rows_at(held, new), cut_rows(goes, wide))
    steps.append(("rooms", rooms + 1))
    return steps + onward(room, rows_at(held, room), cut_rows(stays, wide))


def joining(yard):
    """The steps by which there is one room less."""
    wide, rooms, held = yard
    if rooms == 1:
        raise NoRoom(0)
    room, into = joined_of(rooms)
    both = sorted(entries_in(rows_at(held, into)) + entries_in(rows_at(held, room)))
    steps = backward(into, rows_at(held, into), cut_rows(both, wide))
    return steps + [("rooms", rooms - 1), ("cut", room, 0)]


def putting(yard, key, thing):
    """The steps by which the thing is laid by the key; none where it is already."""
    wide, rooms, held = yard
    room = room_of(key, rooms)
    own = rows_at(held, room)
    new = sorted(others_in(own, key) + [(key, thing)])
    return backward(room, own, cut_rows(new, wide))


def dropping(yard, key):
    """The steps by which the key's entry is taken away."""
    wide, rooms, held = yard
    room = room_of(key, rooms)
    own = rows_at(held, room)
    others = others_in(own, key)
    if len(others) == len(entries_in(own)):
        raise Lacking(key)
    return onward(room, own, cut_rows(others, wide))


def others_in(rows, key):
    """All entries of the rows but the key's, in their order."""
    return [entry for entry in entries_in(rows) if entry[0] != key]
