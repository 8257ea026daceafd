"""Keys for books of splits."""

from tailrooms.bits import bits_for
from tailrooms.books import counts_by


def keys_for(count, book):
    """A rising list of so many keys of which it is the book."""
    rooms = len(book) + 1
    told = []
    # By the last number of rooms the counts tell those by each fewer rooms, too: no more is asked of the keys.
    for room, many in enumerate(counts_by(count, book, rooms)):
        told += first_keys(room, rooms, many)
    return sorted(told)


def first_keys(room, rooms, many):
    """The first so many keys of a room."""
    apart = 1 << bits_for(room, rooms)
    return [room + at * apart for at in range(many)]
