"""The refusals. Each bears the very thing that it was made of."""


class TailError(ValueError):
    """Any refusal."""


class NoSize(TailError):
    """A wide or a fill that is none."""

    def __init__(self, thing):
        self.thing = thing


class NoKey(TailError):
    """A key that is none."""

    def __init__(self, key):
        self.key = key


class NoThing(TailError):
    """A thing that is none."""

    def __init__(self, thing):
        self.thing = thing


class NoRoom(TailError):
    """A number of no room that there is."""

    def __init__(self, number):
        self.number = number


class Lacking(TailError):
    """A key that doesn't stand."""

    def __init__(self, key):
        self.key = key


class Full(TailError):
    """A further key where there are as many as there may be."""

    def __init__(self, many):
        self.many = many


class NoMark(TailError):
    """A mark that is none, or none below the end where one of these is asked for."""

    def __init__(self, mark):
        self.mark = mark


class Busy(TailError):
    """A change that can't begin now."""


class NoText(TailError):
    """A text that isn't written as it should be."""


class NoLine(TailError):
    """A line that the desk doesn't know."""


class NoName(TailError):
    """A name of no keeper."""

    def __init__(self, name):
        self.name = name


class Taken(TailError):
    """A name that a keeper has already."""

    def __init__(self, name):
        self.name = name
