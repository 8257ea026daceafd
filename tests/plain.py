"""Slow and plain reckonings, none of them the program's own, that the tests hold the program against."""

from functools import lru_cache


def written(key):
    """The key's sixty bits, the last one at the end."""
    return bin(key)[2:].zfill(60)


def tail(key, many):
    """The number of the last signs of the written key."""
    return int("0" + written(key)[60 - many:], 2)


def level_by_doubling(rooms):
    found = 0
    while 2 ** (found + 1) <= rooms:
        found += 1
    return found


@lru_cache(maxsize=None)
def ways(key, rooms):
    """The key's room by each number of rooms from 1 on, split one after another as the document tells; a tuple."""
    told = [0]
    for many in range(1, rooms):
        at = level_by_doubling(many)
        goes = told[-1] == many - 2 ** at and written(key)[59 - at] == "1"
        told.append(many if goes else told[-1])
    return tuple(told)


def grown(keys, rooms):
    """A dict of each key's room by so many rooms."""
    return {key: ways(key, rooms)[-1] for key in keys}


def plain_spread(keys, rooms):
    """For each room the rising list of its keys."""
    room = grown(keys, rooms)
    return [[key for key in sorted(keys) if room[key] == number] for number in range(rooms)]


def plain_rows(things, wide):
    """The things, rising, laid into rows one by one."""
    rows = [[]]
    for thing in sorted(things):
        if len(rows[-1]) == wide:
            rows.append([])
        rows[-1].append(thing)
    return rows


def plain_rows_for(many, wide):
    """The least number of rows, one at least, that so many go into, found by trying where it is small."""
    rows = 1 + max(0, many // wide - 2)
    while rows * wide < many:
        rows += 1
    return rows


def plain_look(rows, key):
    """The tuple (found, looks), by the places of the rows at which a look could end."""
    ends = [at for at, row in enumerate(rows) if row != [] and max(row) >= key]
    if ends == []:
        return (False, len(rows))
    return (rows[ends[0]].count(key) > 0, ends[0] + 1)


def plain_rooms_for(count, fill):
    """The least number of rooms, found by trying."""
    rooms = 1
    while count > fill * rooms:
        rooms += 1
    return rooms


def plain_spill(counts, wide):
    """How many rows stand behind the first ones."""
    return sum(max(0, plain_rows_for(many, wide) - 1) for many in counts)


def plain_longest(counts, wide):
    """The tuple (rows, room) of the first of the longest rooms."""
    best = (0, None)
    for room, many in enumerate(counts):
        if plain_rows_for(many, wide) > best[0]:
            best = (plain_rows_for(many, wide), room)
    return best


def plain_table(things, wide, fill):
    """All that a table of the dict's entries tells, in a dict; looks by keys."""
    rooms = plain_rooms_for(len(things), fill)
    spread = plain_spread(list(things), rooms)
    counts = [len(own) for own in spread]
    looks = {key: plain_look(plain_rows(own, wide), key) for own in spread for key in own}
    return {
        "count": len(things),
        "rooms": rooms,
        "entries": [(key, things[key]) for key in sorted(things)],
        "room": [[[(key, things[key]) for key in row] for row in plain_rows(own, wide)] for own in spread],
        "spill": plain_spill(counts, wide),
        "longest": plain_longest(counts, wide),
        "find": {key: (things[key], looks[key][1]) for key in things},
        "looks": looks,
    }
