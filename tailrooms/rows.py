"""Rows of keys, and looks through them."""


def rows_for(many, wide):
    """How many rows so many keys have; one at least."""
    return max(1, (many + wide - 1) // wide)


def rows_behind(many, wide):
    """How many rows of so many keys stand behind the first one."""
    return rows_for(many, wide) - 1


def cut_rows(things, wide):
    """Things in their order, keys or entries, cut into rows of wide things each, the last one perhaps shorter."""
    return [things[at * wide:(at + 1) * wide] for at in range(rows_for(len(things), wide))]


def rows_of(keys, wide):
    """The keys, rising, cut into rows."""
    return cut_rows(sorted(keys), wide)


def looked(rows, key):
    """The tuple (found, looks) of a look for the key through the rows."""
    looks = 0
    for row in rows:
        looks += 1
        if row and row[-1] >= key:
            return (key in row, looks)
    return (False, looks)
