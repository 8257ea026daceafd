"""Keepers: tables that are changed step by step, and mended wherever the steps were stopped."""

from tailrooms.asks import ask_entry, ask_key, ask_sizes
from tailrooms.changes import dropping, joining, putting, splitting
from tailrooms.errors import Busy, Full, Lacking
from tailrooms.mends import mended, mending
from tailrooms.table import MOST_KEYS, rooms_for
from tailrooms.yards import all_entries, done, done_all, found, is_clean, yard_of


def fitting(yard, fill):
    """The steps of splittings or joinings of a clean yard until its number of rooms is the one for its entries."""
    steps = []
    there = yard
    many = rooms_for(len(all_entries(yard)), fill)
    while there[1] != many:
        further = splitting(there) if there[1] < many else joining(there)
        there = done_all(there, further)
        steps += further
    return steps


def copied_step(step):
    """The step with a row of its own."""
    if step[0] != "row":
        return step
    kind, room, at, row = step
    return (kind, room, at, list(row))


class Keeper:
    """A yard, and the steps that are left of its change."""

    def __init__(self, wide, fill):
        ask_sizes(wide, fill)
        self.wide = wide
        self.fill = fill
        self.now = yard_of(wide, 1, [])
        self.steps = []

    def put(self, key, thing):
        """Begins to lay the thing by the key; tells how many steps it takes."""
        ask_entry(key, thing)
        self.ask_settled()
        if found(self.now, key)[0] is None and len(all_entries(self.now)) >= MOST_KEYS:
            raise Full(MOST_KEYS)
        return self.begin(putting(self.now, key, thing))

    def drop(self, key):
        """Begins to take the key's entry away; tells how many steps it takes."""
        ask_key(key)
        self.ask_settled()
        return self.begin(dropping(self.now, key))

    def mend(self):
        """Begins to bring the yard in order from wherever it was stopped; tells how many steps it takes."""
        if self.steps:
            raise Busy()
        return self.begin(mending(self.now))

    def begin(self, steps):
        """Takes up steps that lead to a clean yard, and then those by which it has the rooms for its entries."""
        self.steps = steps + fitting(done_all(self.now, steps), self.fill)
        return len(self.steps)

    def step(self):
        """Does the first step that is left and tells it; None where none is left."""
        if not self.steps:
            return None
        first = self.steps.pop(0)
        self.now = done(self.now, first)
        return first

    def run(self):
        """Does all steps that are left and tells how many."""
        self.now = done_all(self.now, self.steps)
        return self.stop()

    def stop(self):
        """Leaves away the steps that are left and tells how many they were."""
        many = len(self.steps)
        self.steps = []
        return many

    def left(self):
        """The steps that are left."""
        return [copied_step(step) for step in self.steps]

    def find(self, key):
        """The tuple (thing, looks) of a key that is found."""
        ask_key(key)
        thing, looks = found(self.now, key)
        if thing is None:
            raise Lacking(key)
        return (thing, looks)

    def entries(self):
        """The entries of the mended yard, rising by keys."""
        return sorted(all_entries(mended(self.now)))

    def yard(self):
        """The yard as it is."""
        # By no steps at all it is a copy of its own, rows too.
        return done_all(self.now, [])

    def settled(self):
        """Whether no steps are left, and the yard is clean and has the rooms for its entries."""
        many = rooms_for(len(all_entries(self.now)), self.fill)
        return not self.steps and is_clean(self.now) and self.now[1] == many

    def ask_settled(self):
        """Refuses where the keeper isn't settled."""
        if not self.settled():
            raise Busy()
