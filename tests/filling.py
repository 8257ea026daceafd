"""Tables with entries, made put by put."""

from tailrooms.table import Table


def filled(wide, fill, entries):
    """A table with the entries."""
    table = Table(wide, fill)
    for key, thing in entries:
        table.put(key, thing)
    return table


def filled_by_keys(wide, fill, keys):
    """A table with an entry of each key."""
    return filled(wide, fill, [(key, "a") for key in keys])
