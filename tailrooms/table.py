"""Tables: things by keys, in as many rooms as their keys ask for."""

from tailrooms.asks import ask_entry, ask_key, ask_sizes
from tailrooms.bits import joined_of, room_of, split_of
from tailrooms.errors import Full, Lacking, NoRoom
from tailrooms.kinds import is_whole
from tailrooms.rows import cut_rows, looked, rows_of
from tailrooms.spread import counts, longest, spill, spread

MOST_KEYS = 64


def rooms_for(count, fill):
    """The least number of rooms, from 1 on, by which count is no more than fill times the rooms."""
    return max(1, (count + fill - 1) // fill)


class Table:
    """Entries in rooms, rows of wide entries each, at most fill times the rooms of them."""

    def __init__(self, wide, fill):
        ask_sizes(wide, fill)
        self.wide = wide
        self.fill = fill
        # Rooms and rows are reckoned from the entries alone, so the same entries are always the same table.
        self.held = {}

    def put(self, key, thing):
        """Lays the thing by the key; tells (room, new, keys) of the room that was split for it, or None."""
        ask_entry(key, thing)
        if key not in self.held and self.count() >= MOST_KEYS:
            raise Full(MOST_KEYS)
        ahead = self.rooms()
        self.held[key] = thing
        if self.rooms() == ahead:
            return None
        room, new = split_of(ahead)
        return (room, new, self.spread_keys(new + 1)[new])

    def drop(self, key):
        """Takes the key's entry away; tells (room, into, keys) of the room that was joined then, or None."""
        self.ask_standing(key)
        ahead = self.rooms()
        self.held.pop(key)
        if self.rooms() == ahead:
            return None
        room, into = joined_of(ahead)
        return (room, into, self.spread_keys(ahead)[room])

    def find(self, key):
        """The tuple (thing, looks) of a key that stands."""
        self.ask_standing(key)
        return (self.held[key], self.looks(key)[1])

    def looks(self, key):
        """The tuple (found, looks) of any key in its room's rows."""
        ask_key(key)
        rooms = self.rooms()
        own = self.spread_keys(rooms)[room_of(key, rooms)]
        return looked(rows_of(own, self.wide), key)

    def count(self):
        """How many keys there are."""
        return len(self.held)

    def rooms(self):
        """How many rooms there are."""
        return rooms_for(self.count(), self.fill)

    def entries(self):
        """All entries, rising by keys."""
        return sorted(self.held.items())

    def room(self, number):
        """The rows of a room, each a list of entries."""
        if not is_whole(number) or not 0 <= number < self.rooms():
            raise NoRoom(number)
        own = self.spread_keys(self.rooms())[number]
        return cut_rows([(key, self.held[key]) for key in own], self.wide)

    def spill(self):
        """How many rows stand behind the first ones of the rooms."""
        return spill(self.room_counts(), self.wide)

    def longest(self):
        """The tuple (rows, room) of the first of the longest rooms."""
        return longest(self.room_counts(), self.wide)

    def twin(self):
        """A table of its own with the same entries."""
        other = Table(self.wide, self.fill)
        other.held = dict(self.held)
        return other

    def ask_standing(self, key):
        """Refuses what is no key, then a key that doesn't stand."""
        ask_key(key)
        if key not in self.held:
            raise Lacking(key)

    def spread_keys(self, rooms):
        """For each of so many rooms the rising list of its keys."""
        return spread(list(self.held), rooms)

    def room_counts(self):
        """For each room how many keys it has."""
        return counts(list(self.held), self.rooms())
