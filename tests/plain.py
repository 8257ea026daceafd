"""Slow and plain reckonings, none of them the program's own, that the tests hold the program against."""

from functools import lru_cache


def written(key):
    """The key's sixty bits, the last one at the end."""
    return bin(key)[2:].zfill(60)


def tail(key, many):
    """The number of the last signs of the written key."""
    return int("0" + written(key)[60 - many:], 2)


def plain_turned(key):
    """The number of the written key, read from its end."""
    return int(written(key)[::-1], 2)


def level_by_doubling(rooms):
    found = 0
    while 2 ** (found + 1) <= rooms:
        found += 1
    return found


@lru_cache(maxsize=None)
def ways(key, rooms):
    """The key's room by each number of rooms from 1 on, split one after another as the document tells; a tuple."""
    told = [0]
    for many in range(1, rooms):
        at = level_by_doubling(many)
        goes = told[-1] == many - 2 ** at and written(key)[59 - at] == "1"
        told.append(many if goes else told[-1])
    return tuple(told)


def grown(keys, rooms):
    """A dict of each key's room by so many rooms."""
    return {key: ways(key, rooms)[-1] for key in keys}


def plain_spread(keys, rooms):
    """For each room the rising list of its keys."""
    room = grown(keys, rooms)
    return [[key for key in sorted(keys) if room[key] == number] for number in range(rooms)]


def plain_rows(things, wide):
    """The things, rising, laid into rows one by one."""
    rows = [[]]
    for thing in sorted(things):
        if len(rows[-1]) == wide:
            rows.append([])
        rows[-1].append(thing)
    return rows


def plain_rows_for(many, wide):
    """The least number of rows, one at least, that so many go into, found by trying where it is small."""
    rows = 1 + max(0, many // wide - 2)
    while rows * wide < many:
        rows += 1
    return rows


def plain_look(rows, key):
    """The tuple (found, looks), by the places of the rows at which a look could end."""
    ends = [at for at, row in enumerate(rows) if row != [] and max(row) >= key]
    if ends == []:
        return (False, len(rows))
    return (rows[ends[0]].count(key) > 0, ends[0] + 1)


def plain_rooms_for(count, fill):
    """The least number of rooms, found by trying."""
    rooms = 1
    while count > fill * rooms:
        rooms += 1
    return rooms


def plain_spill(counts, wide):
    """How many rows stand behind the first ones."""
    return sum(max(0, plain_rows_for(many, wide) - 1) for many in counts)


def plain_longest(counts, wide):
    """The tuple (rows, room) of the first of the longest rooms."""
    best = (0, None)
    for room, many in enumerate(counts):
        if plain_rows_for(many, wide) > best[0]:
            best = (plain_rows_for(many, wide), room)
    return best


def plain_table(things, wide, fill):
    """All that a table of the dict's entries tells, in a dict; looks by keys."""
    rooms = plain_rooms_for(len(things), fill)
    spread = plain_spread(list(things), rooms)
    counts = [len(own) for own in spread]
    looks = {key: plain_look(plain_rows(own, wide), key) for own in spread for key in own}
    return {
        "count": len(things),
        "rooms": rooms,
        "entries": [(key, things[key]) for key in sorted(things)],
        "room": [[[(key, things[key]) for key in row] for row in plain_rows(own, wide)] for own in spread],
        "spill": plain_spill(counts, wide),
        "longest": plain_longest(counts, wide),
        "find": {key: (things[key], looks[key][1]) for key in things},
        "looks": looks,
    }


def plain_yard(wide, rooms, things):
    """The clean yard of the dict's entries."""
    spread = plain_spread(list(things), rooms)
    return (wide, rooms, [plain_rows([(key, things[key]) for key in own], wide) for own in spread])


def plain_found(yard, key):
    """The tuple (thing, looks) of a look through the key's room."""
    wide, rooms, held = yard
    room = ways(key, rooms)[-1]
    if room >= len(held):
        return (None, 0)
    there, looks = plain_look([[other for other, thing in row] for row in held[room]], key)
    things = [thing for other, thing in held[room][looks - 1] if other == key] if there else [None]
    return (things[0], looks)


def plain_done(yard, step):
    """The yard behind a step, the rows kept by their rooms and places in between."""
    wide, rooms, held = yard
    many = {room: len(rows) for room, rows in enumerate(held)}
    laid = {(room, at): row for room, rows in enumerate(held) for at, row in enumerate(rows)}
    if step[0] == "rooms":
        rooms = step[1]
    elif step[0] == "cut":
        many[step[1]] = min(many.get(step[1], 0), step[2])
    else:
        many[step[1]] = max(many.get(step[1], 0), step[2] + 1)
        laid[step[1], step[2]] = step[3]
    last = max([room for room in many if many[room] > 0], default=-1)
    there = [[list(laid.get((room, at), [])) for at in range(many.get(room, 0))] for room in range(last + 1)]
    return (wide, rooms, there)


def plain_onward(room, old, new):
    """The steps of a rewriting onward."""
    steps = []
    for at in range(len(new)):
        if len(old) <= at:
            steps.append(("row", room, at, new[at]))
        elif old[at] != new[at]:
            steps.append(("row", room, at, new[at]))
    return steps + [("cut", room, len(new))] * (len(old) > len(new))


def plain_backward(room, old, new):
    """The steps of a rewriting backward."""
    steps = []
    for at in range(len(new) - 1, -1, -1):
        if old[at:at + 1] != [new[at]]:
            steps.append(("row", room, at, new[at]))
    return steps


def plain_mended(yard):
    """The mended yard, entry by entry."""
    wide, rooms, held = yard
    things = {}
    for room in range(min(rooms, len(held))):
        for row in held[room]:
            for key, thing in row:
                if ways(key, rooms)[-1] == room and key not in things:
                    things[key] = thing
    return plain_yard(wide, rooms, things)


def plain_book(keys, rooms):
    """The book of the keys, from the keys' rooms ahead of each split and behind it."""
    book = []
    for many in range(1, rooms):
        split = many - 2 ** level_by_doubling(many)
        own = [key for key in keys if ways(key, 130)[many - 1] == split]
        goes = [key for key in own if ways(key, 130)[many] == many]
        book.append((split, many, len(own) - len(goes), len(goes)))
    return book


def all_puts(rooms, more):
    """All lists of so many whole numbers from 0 on that come to more."""
    if rooms == 1:
        return [[more]]
    return [[comes] + put for comes in range(more + 1) for put in all_puts(rooms - 1, more - comes)]
