"""Things of many kinds, for the tests that hand in whatever there is."""

from random import Random

END = 2 ** 60
FAR = 10 ** 49
WORDS = ("a", "b", "zz", "word", "eight", "abcdefgh", "zzzzzzzz", "k")


def whatever():
    """New things of every kind, none of them a whole number, a key, a size or a name."""
    return [
        None, True, False, b"a", b"", set(), {1}, object(), int, len,
        [], [1], ["a"], [[]], [1, [2, "b"]],
        (), (1,), ("a",), ((),), (1, (2, "b")),
        {}, {1: 2}, {"a": [1]}, {(1, 2): None},
        "", " ", "1", "A", "None", "True", "a b", "a\n", "\ta", "-",
    ]


# What is no key, no thing, no wide or fill, and no mark below END.
NO_KEYS = whatever() + [-1, -END, END, END + 1, 2 ** 64, FAR, -FAR, "a", "5", "abc"]
NO_THINGS = whatever() + [0, 1, -1, 5, END, FAR, "abcdefghi", "aB", "a1", "a-b"]
NO_SIZES = whatever() + [0, 9, 10, -1, -8, END, END + 1, FAR, -FAR, "a", "8"]
NO_MARKS = whatever() + [-1, -5, -END, END, END + 1, 2 ** 61, 10 ** 30, FAR, -FAR, "0", "5", "end", [0], (0,), {0: 0}]


def drawn_keys(many):
    """The same keys each time, some of few bits and some of many."""
    draw = Random(60)
    return [draw.randrange(2 ** draw.randint(1, 60)) for at in range(many)]


def edge_keys():
    """Keys at the edges, the neighbours of the powers of two among them."""
    keys = {0, END - 1}
    for bit in range(60):
        keys |= {2 ** bit - 1, 2 ** bit, (2 ** bit + 1) % END}
    return sorted(keys)


def edge_rooms():
    """Numbers of rooms from 1 on: all the small ones, powers of two, one less and one more, and drawn ones."""
    draw = Random(12)
    rooms = set(range(1, 70)) | {END - 1, END}
    for bit in range(1, 60):
        rooms |= {2 ** bit - 1, 2 ** bit, 2 ** bit + 1, draw.randint(2 ** bit, 2 ** (bit + 1) - 1)}
    return sorted(rooms)


def some_entries(many, draw):
    """Entries of unlike keys, small, far and of one room, in whatever order."""
    keys = list(range(40)) + edge_keys() + drawn_keys(60) + [64 * at + 3 for at in range(1, 40)]
    return [(key, draw.choice(WORDS)) for key in draw.sample(sorted(set(keys)), many)]


def some_keys(many, draw):
    """Unlike keys, small, far and of one room, in whatever order."""
    return [key for key, thing in some_entries(many, draw)]


def parted_book(count, rooms, stays_of):
    """A book of no known keys: of what a room had that was split, stays_of(new, had) stays."""
    had, book = [count], []
    for many in range(1, rooms):
        room = int("0" + bin(many)[3:], 2)
        stays = stays_of(many, had[room])
        book.append((room, many, stays, had[room] - stays))
        had.append(had[room] - stays)
        had[room] = stays
    return book


def drawn_book(count, rooms, draw):
    """A book of no known keys: each room's number parted by chance."""
    return parted_book(count, rooms, lambda new, had: draw.choice((0, had, draw.randint(0, had))))
