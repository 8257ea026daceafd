"""Keys' last bits, and the rooms that they tell."""

KEY_BITS = 60


def last_bits(key, many):
    """The rest of the key by 2 ** many."""
    return key % (1 << many)


def level(rooms):
    """The greatest L with 2 ** L no more than rooms."""
    return rooms.bit_length() - 1


def turn(rooms):
    """The room that is split next: rooms less 2 ** level."""
    return rooms - (1 << level(rooms))


def bits_for(room, rooms):
    """How many of a key's last bits tell that it is in the room, by so many rooms."""
    deep = level(rooms)
    if turn(rooms) <= room < 1 << deep:
        return deep
    # This room has been split already at this level, or has come by it: one bit more tells the halves apart.
    return deep + 1


def room_of(key, rooms):
    """The key's room by so many rooms."""
    return last_bits(key, bits_for(last_bits(key, level(rooms)), rooms))


def split_of(rooms):
    """The tuple (room, new) of what is split where one room more comes."""
    return (turn(rooms), rooms)


def joined_of(rooms):
    """The tuple (room, into) of what is joined where there is one room less; None by one room alone."""
    if rooms == 1:
        return None
    room = rooms - 1
    # The last room came when there were just as many rooms as its number, so its turn then tells its other half.
    return (room, turn(room))


def turned(key):
    """The key with its bits from the last to the first."""
    told = 0
    for place in range(KEY_BITS):
        told = told * 2 + (key >> place) % 2
    return told
