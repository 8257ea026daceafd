"""What a table can come to by further keys."""

from tailrooms.further import greatest_spill, least_spill
from tailrooms.spread import counts
from tailrooms.table import rooms_for


def outlook(keys, wide, fill, more):
    """The tuple (rooms, least, greatest) of a table of the keys and so many further ones."""
    rooms = rooms_for(len(keys) + more, fill)
    own = counts(keys, rooms)
    return (rooms, least_spill(own, wide, more)[0], greatest_spill(own, wide, more)[0])
