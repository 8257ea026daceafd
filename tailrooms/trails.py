"""A key's rooms by a growing number of rooms."""

from tailrooms.bits import last_bits


def rooms_of(key):
    """All rooms that the key ever comes to, rising: room 0, and its last bits up to each bit that is 1."""
    return [0] + [last_bits(key, bit + 1) for bit in range(key.bit_length()) if (key >> bit) % 2 == 1]


def trail(key, rooms):
    """The list of tuples (many, room), rising: from how many rooms on the key is in which room."""
    # A room is there, and has its keys, just from one more rooms than its number on.
    return [(room + 1, room) for room in rooms_of(key) if room < rooms]


def stay(key, room):
    """The tuple (first, behind) of the numbers of rooms by which the key is in the room; None where it never is."""
    ways = rooms_of(key)
    if room not in ways:
        return None
    further = ways[ways.index(room) + 1:]
    if not further:
        return (room + 1, None)
    return (room + 1, further[0] + 1)


def parted(one, other):
    """The least number of rooms by which two unlike keys are in unlike rooms."""
    unlike = one ^ other
    # Of all bits in which the keys are unlike the last one alone is left by this.
    many = (unlike & -unlike).bit_length()
    # The key whose bit is 1 there goes, by that bit, to the room of this number.
    return max(last_bits(one, many), last_bits(other, many)) + 1
