"""Books of splits: how many keys of each split room stayed, and how many went to the new one."""

from tailrooms.bits import split_of
from tailrooms.kinds import is_whole
from tailrooms.rows import rows_behind
from tailrooms.spread import counts

MOST_SPLITS = 129


def book_of(keys, rooms):
    """The book of unlike keys up to that number of rooms."""
    return [split_at(keys, many) for many in range(1, rooms)]


def split_at(keys, rooms):
    """The tuple (room, new, stays, goes) of the split of the keys' rooms, by which one room more comes."""
    room, new = split_of(rooms)
    behind = counts(keys, rooms + 1)
    return (room, new, behind[room], behind[new])


def is_book(count, thing):
    """Whether the thing, whatever it is, is the book of some so many keys."""
    if not isinstance(thing, list) or len(thing) > MOST_SPLITS:
        return False
    had = [count]
    for split in thing:
        if not is_split(had, split):
            return False
        do_split(had, split)
    return True


def is_split(had, thing):
    """Whether the thing is a tuple of the next split of rooms that have so many keys."""
    if not isinstance(thing, tuple) or len(thing) != 4 or not all([is_whole(number) for number in thing]):
        return False
    room, new, stays, goes = thing
    return (room, new) == split_of(len(had)) and stays >= 0 and goes >= 0 and stays + goes == had[room]


def do_split(had, split):
    """Brings the rooms' counts to what they are behind the split."""
    room, new, stays, goes = split
    had[room] = stays
    had.append(goes)


def counts_by(count, book, rooms):
    """The rooms' counts by that number of rooms."""
    had = [count]
    for split in book[:rooms - 1]:
        do_split(had, split)
    return had


def all_spills(count, book, wide):
    """The spill by each number of rooms, from one room on."""
    told = [rows_behind(count, wide)]
    for room, new, stays, goes in book:
        # By a split no room changes but these, which had the keys of both in one room ahead of it.
        more = rows_behind(stays, wide) + rows_behind(goes, wide) - rows_behind(stays + goes, wide)
        told.append(told[-1] + more)
    return told


def spills_by(count, book, wide):
    """The list of tuples (first, behind, spill) of the stretches of numbers of rooms with one spill."""
    told = []
    first = 1
    spills = all_spills(count, book, wide)
    for rooms in range(1, len(spills) + 1):
        here = spills[rooms - 1]
        # A stretch ends where the next number of rooms has another spill, and behind the book's last one.
        if rooms == len(spills) or spills[rooms] != here:
            told.append((first, rooms + 1, here))
            first = rooms + 1
    return told


def least_rooms(count, book, wide, spill):
    """The least number of rooms by which the spill is no more; None where there is none."""
    for at, here in enumerate(all_spills(count, book, wide)):
        if here <= spill:
            return at + 1
    return None
