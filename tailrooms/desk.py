"""The desk: it is told lines, and answers each with a text."""

from tailrooms.bits import room_of
from tailrooms.errors import NoLine, NoName, NoText, Taken
from tailrooms.further import greatest_spill, least_spill
from tailrooms.keeper import Keeper
from tailrooms.kinds import is_name
from tailrooms.texts import read_number, read_words, show_rows, show_step
from tailrooms.trails import parted, stay, trail
from tailrooms.yards import rows_at

# For each line's first word the kinds of the words behind it.
FORMS = {
    "keep": ("name", "number", "number"),
    "put": ("name", "key", "thing"),
    "drop": ("name", "key"),
    "mend": ("name",),
    "run": ("name",),
    "stop": ("name",),
    "step": ("name",),
    "left": ("name",),
    "find": ("name", "key"),
    "rooms": ("name",),
    "room": ("name", "number"),
    "keys": ("name",),
    "settled": ("name",),
    "where": ("key", "rooms"),
    "trail": ("key", "rooms"),
    "stay": ("key", "room"),
    "parted": ("key", "key"),
    "greatest": ("wide", "more", "count"),
    "least": ("wide", "more", "count"),
}
COUNTED = ("greatest", "least")
MOST_COUNTS = 120
# For each kind of numbers the least and the greatest one.
BOUNDS = {
    "number": (0, 10 ** 30 - 1),
    "key": (0, 2 ** 60 - 1),
    "rooms": (1, 2 ** 60),
    "room": (0, 2 ** 60 - 1),
    "wide": (1, 8),
    "more": (0, 10 ** 10),
    "count": (0, 10 ** 9),
}


def read_line(line):
    """The tuple (word, handed) of a line's first word and of what the others write."""
    try:
        word, *others = read_words(line)
        kinds = kinds_of(word, len(others))
        return (word, [read_word(kind, other) for kind, other in zip(kinds, others)])
    except NoText:
        raise NoLine() from None


def kinds_of(word, many):
    """The kinds of so many words behind a line's first one."""
    if word not in FORMS:
        raise NoLine()
    kinds = FORMS[word]
    if word in COUNTED and many - 2 <= MOST_COUNTS:
        kinds = kinds + ("count",) * (many - len(kinds))
    if many != len(kinds):
        raise NoLine()
    return kinds


def read_word(kind, word):
    """What a word of that kind writes."""
    if kind == "name" or kind == "thing":
        if not is_name(word):
            raise NoLine()
        return word
    least, most = BOUNDS[kind]
    return read_number(word, least, most)


def say_where(handed):
    """The key's room."""
    key, rooms = handed
    return str(room_of(key, rooms))


def say_trail(handed):
    """The key's rooms by a growing number of rooms."""
    key, rooms = handed
    return " ".join([f"{many}:{room}" for many, room in trail(key, rooms)])


def say_stay(handed):
    """By which numbers of rooms the key is in the room."""
    key, room = handed
    told = stay(key, room)
    if told is None:
        return "never"
    first, behind = told
    return f"{first} ever" if behind is None else f"{first} {behind}"


def say_parted(handed):
    """From how many rooms on the keys are parted."""
    one, other = handed
    return "alike" if one == other else str(parted(one, other))


def say_greatest(handed):
    """The greatest spill by further keys."""
    wide, more, *own = handed
    return str(greatest_spill(own, wide, more)[0])


def say_least(handed):
    """The least spill by further keys."""
    wide, more, *own = handed
    return str(least_spill(own, wide, more)[0])


def say_put(keeper, handed):
    """How many steps a put takes."""
    key, thing = handed
    return str(keeper.put(key, thing))


def say_drop(keeper, handed):
    """How many steps a drop takes."""
    return str(keeper.drop(handed[0]))


def say_mend(keeper, handed):
    """How many steps a mending takes."""
    return str(keeper.mend())


def say_run(keeper, handed):
    """How many steps were done."""
    return str(keeper.run())


def say_stop(keeper, handed):
    """How many steps were left away."""
    return str(keeper.stop())


def say_step(keeper, handed):
    """The step that was done."""
    told = keeper.step()
    return "none" if told is None else show_step(told)


def say_left(keeper, handed):
    """The steps that are left."""
    return " / ".join([show_step(step) for step in keeper.left()]) or "none"


def say_find(keeper, handed):
    """The key's thing and the looks."""
    thing, looks = keeper.find(handed[0])
    return f"{thing} {looks}"


def say_rooms(keeper, handed):
    """The yard's number of rooms."""
    return str(keeper.yard()[1])


def say_room(keeper, handed):
    """The rows of a room."""
    return show_rows(rows_at(keeper.yard()[2], handed[0]))


def say_keys(keeper, handed):
    """The keys that there are."""
    return " ".join([str(key) for key, thing in keeper.entries()]) or "none"


def say_settled(keeper, handed):
    """Whether the keeper is settled."""
    return "yes" if keeper.settled() else "no"


FREE_DEEDS = {
    "where": say_where,
    "trail": say_trail,
    "stay": say_stay,
    "parted": say_parted,
    "greatest": say_greatest,
    "least": say_least,
}
KEEPER_DEEDS = {
    "put": say_put,
    "drop": say_drop,
    "mend": say_mend,
    "run": say_run,
    "stop": say_stop,
    "step": say_step,
    "left": say_left,
    "find": say_find,
    "rooms": say_rooms,
    "room": say_room,
    "keys": say_keys,
    "settled": say_settled,
}


class Desk:
    """Keepers by their names."""

    def __init__(self):
        self.keepers = {}

    def say(self, line):
        """Answers a line."""
        word, handed = read_line(line)
        if word in FREE_DEEDS:
            free_deed = FREE_DEEDS[word]
            return free_deed(handed)
        name, *others = handed
        if word == "keep":
            return self.keep(name, others)
        if name not in self.keepers:
            raise NoName(name)
        deed = KEEPER_DEEDS[word]
        return deed(self.keepers[name], others)

    def keep(self, name, sizes):
        """Makes a new keeper by that name."""
        if name in self.keepers:
            raise Taken(name)
        wide, fill = sizes
        self.keepers[name] = Keeper(wide, fill)
        return "ok"
