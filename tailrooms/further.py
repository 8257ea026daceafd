"""What further keys can do to the spill of rooms with so many keys."""

from tailrooms.kinds import is_whole
from tailrooms.rows import rows_behind, rows_for


def greatest_spill(counts, wide, more):
    """The tuple (spill, put): the greatest spill behind any put of so many keys, and such a put."""
    put = [0] * len(counts)
    left = more
    cheap = cheap_rooms(counts, wide)
    for room in cheap:
        needed = gap(counts[room], wide)
        if needed <= left:
            put[room] = needed
            left -= needed
    # Where all of these rooms have their row more, each further row takes wide keys, wherever they come.
    put[cheap[0]] += left
    return (spill_behind(counts, wide, put), put)


def least_spill(counts, wide, more):
    """The tuple (spill, put): the least spill behind any put of so many keys, and such a put."""
    put = []
    left = more
    for many in counts:
        goes = min(left, gap(many, wide) - 1)
        put.append(goes)
        left -= goes
    # Where keys are left all rows are full, so each further row takes wide keys, wherever they come.
    put[0] += left
    return (spill_behind(counts, wide, put), put)


def gap(many, wide):
    """How many further keys there must be in a room with so many for one row more."""
    return rows_for(many, wide) * wide + 1 - many


def cheap_rooms(counts, wide):
    """The rooms in which a row more takes the fewest keys, by how many these are; one at least."""
    # A room without keys takes one key more than wide, which a further row elsewhere never does.
    rooms = [room for room in range(len(counts)) if counts[room] > 0]
    return sorted(rooms, key=lambda room: gap(counts[room], wide)) or [0]


def spill_behind(counts, wide, put):
    """The spill behind a put."""
    return sum([rows_behind(many + comes, wide) for many, comes in zip(counts, put)])


def spill_now(counts, wide):
    """The spill ahead of all puts."""
    return spill_behind(counts, wide, [0] * len(counts))


def is_put(counts, more, thing):
    """Whether the thing, whatever it is, is a put of so many keys."""
    if not isinstance(thing, list) or len(thing) != len(counts):
        return False
    return all([is_whole(comes) and comes >= 0 for comes in thing]) and sum(thing) == more


def is_greatest(counts, wide, more, thing):
    """Whether the thing, whatever it is, is a put behind which the spill is the greatest."""
    return is_put(counts, more, thing) and spill_behind(counts, wide, thing) == greatest_spill(counts, wide, more)[0]


def is_least(counts, wide, more, thing):
    """Whether the thing, whatever it is, is a put behind which the spill is the least."""
    return is_put(counts, more, thing) and spill_behind(counts, wide, thing) == least_spill(counts, wide, more)[0]


def fewest_for(counts, wide, spill):
    """The fewest further keys by which the spill can be no less."""
    rows = max(0, spill - spill_now(counts, wide))
    gaps = [gap(counts[room], wide) for room in cheap_rooms(counts, wide)]
    return sum(gaps[:rows]) + max(0, rows - len(gaps)) * wide


def most_for(counts, wide, spill):
    """The most further keys by which the spill can be no more; None where it is more already."""
    if spill_now(counts, wide) > spill:
        return None
    return (len(counts) + spill) * wide - sum(counts)
