"""Rows, steps and yards as texts: written, and read again."""

from tailrooms.errors import NoText
from tailrooms.kinds import is_name

MOST = 130
MOST_FIGURES = 30
LAST_KEY = 2 ** 60 - 1
MOST_WIDE = 8


def show_rows(rows):
    """The text of rows of entries."""
    return ";".join([show_row(row) for row in rows]) or "none"


def show_row(row):
    """The text of one row."""
    return ",".join([f"{key}={thing}" for key, thing in row]) or "-"


def show_step(step):
    """The text of a step."""
    if step[0] == "row":
        return f"row {step[1]} {step[2]} {show_row(step[3])}"
    return " ".join([str(part) for part in step])


def show_yard(yard):
    """The text of a yard."""
    wide, rooms, held = yard
    return " ".join([str(wide), str(rooms)] + [show_rows(rows) for rows in held])


def read_rows(text):
    """The rows that the text writes."""
    ask_text(text)
    if text == "none":
        return []
    return [read_row(part) for part in text.split(";")]


def read_row(text):
    """The one row that the text writes."""
    if text == "-":
        return []
    return [read_entry(part) for part in text.split(",")]


def read_entry(text):
    """The entry that the text writes."""
    key, sign, thing = text.partition("=")
    if not is_name(thing):
        raise NoText()
    return (read_number(key, 0, LAST_KEY), thing)


def read_step(text):
    """The step that the text writes."""
    kind, *others = read_words(text)
    if kind == "row" and len(others) == 3:
        room, at, row = others
        return (kind, read_number(room, 0, MOST), read_number(at, 0, MOST), read_row(row))
    if kind == "cut" and len(others) == 2:
        room, many = others
        return (kind, read_number(room, 0, MOST), read_number(many, 0, MOST))
    if kind == "rooms" and len(others) == 1:
        return (kind, read_number(others[0], 1, MOST))
    raise NoText()


def read_yard(text):
    """The yard that the text writes."""
    words = read_words(text)
    if len(words) < 2:
        raise NoText()
    wide, rooms, *rest = words
    held = [read_rows(word) for word in rest]
    if held and not held[-1]:
        raise NoText()
    return (read_number(wide, 1, MOST_WIDE), read_number(rooms, 1, MOST), held)


def read_words(text):
    """The words of the text, parted by single blanks."""
    ask_text(text)
    return text.split(" ")


def read_number(text, least, most):
    """The number that the text writes, from least to most."""
    if not is_number(text) or not least <= int(text) <= most:
        raise NoText()
    return int(text)


def is_number(text):
    """Whether the text is a number in figures, without a 0 ahead but for 0 itself, and of no more than thirty."""
    if not 1 <= len(text) <= MOST_FIGURES or not all(["0" <= sign <= "9" for sign in text]):
        return False
    return text == "0" or text[0] != "0"


def ask_text(thing):
    """Refuses what is no text."""
    if not isinstance(thing, str):
        raise NoText()
