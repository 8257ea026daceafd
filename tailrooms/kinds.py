"""The kinds of things, told of whatever is handed in."""


def is_whole(thing):
    """Whether the thing is an int that is no truth."""
    # To Python True and False are ints, too.
    return isinstance(thing, int) and not isinstance(thing, bool)


def is_key(thing):
    """Whether the thing is a whole number from 0 to 2 ** 60 - 1."""
    return is_whole(thing) and 0 <= thing < 2 ** 60


def is_name(thing):
    """Whether the thing is a text of one to eight small letters; so are names and things both."""
    return isinstance(thing, str) and 1 <= len(thing) <= 8 and all(["a" <= sign <= "z" for sign in thing])


def is_size(thing):
    """Whether the thing is a whole number from 1 to 8; so are wide and fill both."""
    return is_whole(thing) and 1 <= thing <= 8
