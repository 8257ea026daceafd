"""What is asked of things that are handed in, whatever they are: each ask refuses what isn't so."""

from tailrooms.errors import NoKey, NoSize, NoThing
from tailrooms.kinds import is_key, is_name, is_size


def ask_sizes(wide, fill):
    """Refuses a wide that is none, then a fill that is none."""
    if not is_size(wide):
        raise NoSize(wide)
    if not is_size(fill):
        raise NoSize(fill)


def ask_key(key):
    """Refuses what is no key."""
    if not is_key(key):
        raise NoKey(key)


def ask_entry(key, thing):
    """Refuses what is no key, then what is no thing."""
    ask_key(key)
    if not is_name(thing):
        raise NoThing(thing)
