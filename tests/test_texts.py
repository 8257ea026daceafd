"""Tests of texts [3, 5, 91]."""

import re
import unittest
from copy import deepcopy
from random import Random

from tailrooms.changes import dropping, joining, putting, splitting
from tailrooms.errors import NoText
from tailrooms.texts import read_rows, read_step, read_yard, show_rows, show_step, show_yard
from tailrooms.yards import done_all, yard_of
from things import END, FAR, drawn_keys, some_entries, whatever

NUMBER = "(?:0|[1-9][0-9]{0,29})"
ENTRY = f"{NUMBER}=[a-z]{{1,8}}"
ROW = f"(?:-|{ENTRY}(?:,{ENTRY})*)"
ROWS = f"(?:none|{ROW}(?:;{ROW})*)"
SIGNS = " 012359azAZ=,;-+_./:\t\n~none"
TEXTS_OF_ROWS = (
    "none", "-", "-;-", "0=a", "5=abcdefgh", "1=a,2=b", "1=a;2=b", "-;1=a,0=zz;-", f"{END - 1}=z", "10=none;-",
)
TEXTS_OF_STEPS = (
    "row 0 0 -", "row 1 12 5=a", "row 130 130 1=a,0=b", "cut 0 0", "cut 12 130", "cut 130 1", "rooms 1", "rooms 130",
    "rooms 20",
)
TEXTS_OF_YARDS = (
    "1 1", "8 130", "2 1 -", "2 3 none none 1=a", "2 2 1=a,2=b;- none -;3=c", f"3 10 {END - 1}=z 0=zzzzzzzz",
)


def is_rows(text):
    """Whether the text writes rows, by its form and its numbers."""
    if type(text) is not str or not re.fullmatch(ROWS, text):
        return False
    return all(int(key) < END for key in re.findall("([0-9]+)=", text))


def is_step(text):
    """Whether the text writes a step."""
    if type(text) is not str:
        return False
    words = text.split(" ")
    if words[0] == "row" and re.fullmatch(f"row {NUMBER} {NUMBER} {ROW}", text):
        return int(words[1]) <= 130 and int(words[2]) <= 130 and is_rows(words[3])
    if words[0] == "cut" and re.fullmatch(f"cut {NUMBER} {NUMBER}", text):
        return int(words[1]) <= 130 and int(words[2]) <= 130
    return bool(re.fullmatch(f"rooms {NUMBER}", text)) and 1 <= int(words[1]) <= 130


def is_yard(text):
    """Whether the text writes a yard."""
    if type(text) is not str or not re.fullmatch(f"{NUMBER} {NUMBER}(?: {ROWS})*", text):
        return False
    wide, rooms, *held = text.split(" ")
    return 1 <= int(wide) <= 8 and 1 <= int(rooms) <= 130 and all(map(is_rows, held)) and held[-1:] != ["none"]


def changed(text):
    """All texts that come of one by one sign left out, put in, or exchanged for another."""
    told = set()
    for at in range(len(text) + 1):
        told |= {text[:at] + sign + text[at:] for sign in SIGNS}
        if at < len(text):
            told.add(text[:at] + text[at + 1:])
            told |= {text[:at] + sign + text[at + 1:] for sign in SIGNS}
    return sorted(told)


def some_rows(draw):
    """Any rows: without entries, out of order, a key twice, more entries than a wide."""
    entries = some_entries(12, draw)
    return [[draw.choice(entries) for at in range(draw.choice((0, 0, 1, 2, 5)))] for row in range(draw.randint(0, 5))]


def some_steps(draw):
    """Any steps of each kind."""
    rows = some_rows(draw) + [[]]
    told = [("row", draw.randint(0, 130), draw.randint(0, 130), row) for row in rows]
    told += [("cut", room, many) for room in (0, 1, 129, 130) for many in (0, 1, 129, 130)]
    return told + [("rooms", many) for many in (1, 2, 64, 129, 130)]


def some_yards(draw):
    """Any yards, and those of changes, stopped behind each step."""
    told = [(1, 1, []), (8, 130, []), (2, 3, [[], [], [[]]]), (2, 1, [[[]], [[(1, "a")]]])]
    for turn in range(10):
        held = [some_rows(draw) for room in range(draw.randint(0, 6))]
        while held and not held[-1]:
            held.pop()
        told.append((draw.randint(1, 8), draw.randint(1, 130), held))
    yard = yard_of(2, 3, some_entries(9, draw))
    key = yard[2][0][0][0][0] if yard[2][0][0] else None
    changes = [splitting(yard), joining(yard), putting(yard, 5, "new")] + [dropping(yard, key)] * (key is not None)
    for steps in changes:
        told += [done_all(yard, steps[:many]) for many in range(len(steps) + 1)]
    return told


class TextTest(unittest.TestCase):
    def refused(self, read, thing):
        seen = repr(thing)
        with self.assertRaises(NoText) as taken:
            read(thing)
        self.assertIs(type(taken.exception), NoText)
        self.assertEqual(repr(thing), seen)

    def there_and_back(self, show, read, thing, *answer):
        """What is shown is read again; neither changes what is handed in, and what is read is new each time."""
        seen = deepcopy(thing)
        text = show(thing)
        self.assertIs(type(text), str)
        if answer:
            self.assertEqual(text, answer[0])
        told = read(text)
        self.assertEqual(told, thing, text)
        self.assertEqual(repr(told), repr(thing))
        self.spoil(read(text))
        self.assertEqual((read(text), show(thing), thing), (seen, text, seen))
        self.spoil(thing)
        self.assertEqual((told, read(text)), (seen, seen))
        return text

    def spoil(self, thing):
        """Changes all lists within the thing."""
        if type(thing) is list or type(thing) is tuple:
            for part in thing:
                self.spoil(part)
        if type(thing) is list:
            thing.append((7, "spoilt"))

    def just_where(self, is_so, show, read, text):
        """The text is read where it writes such a thing, else it is refused."""
        if is_so(text):
            self.assertEqual(show(read(text)), text)
        else:
            self.refused(read, text)


class Rows(TextTest):
    def test_examples(self):
        for rows, text in (
            ([], "none"), ([[]], "-"), ([[], []], "-;-"), ([[(0, "a")]], "0=a"),
            ([[(3, "c"), (5, "a")], [(8, "b")]], "3=c,5=a;8=b"), ([[], [(END - 1, "abcdefgh")], []], f"-;{END - 1}=abcdefgh;-"),
            ([[(5, "b"), (5, "a"), (1, "a")]], "5=b,5=a,1=a"), ([[(1, "none")]], "1=none"),
        ):
            self.there_and_back(show_rows, read_rows, rows, text)

    def test_drawn(self):
        draw = Random(91)
        for turn in range(100):
            self.assertTrue(is_rows(self.there_and_back(show_rows, read_rows, some_rows(draw))))

    def test_long_rows(self):
        row = [(key, "a") for key in drawn_keys(120)]
        self.there_and_back(show_rows, read_rows, [row])
        self.there_and_back(show_rows, read_rows, [[entry] for entry in row])
        self.there_and_back(show_rows, read_rows, [[] for at in range(130)])

    def test_texts_by_one_change(self):
        for text in TEXTS_OF_ROWS:
            self.assertTrue(is_rows(text))
            for other in [text] + changed(text):
                self.just_where(is_rows, show_rows, read_rows, other)

    def test_other_texts(self):
        for text in (
            "", " ", "none ", " none", "None", "nones", "none;none", "none;-", "-;none", "none,1=a", "--", "-,-", "-,1=a",
            "1=a,-", "1=a,", ",1=a", "1=a;", ";1=a", ";", ",", "=", "1=", "=a", "1", "a", "a=1", "1=a=b", "1==a",
            "01=a", "00=a", "+1=a", "-1=a", "1 =a", "1= a", "1=a ", " 1=a", "1=a, 2=b", "1=a; 2=b", "1=a\n", "\n1=a",
            "1=a\t", "1=A", "1=abcdefghi", "1=a1", "1=a-", "1_0=a", "1.0=a", "0x1=a", "1=a,,2=b", "1=a;;2=b",
            f"{END}=a", f"{END + 1}=a", "9" * 30 + "=a", "1" * 31 + "=a", "9" * 49 + "=a", "0" * 31 + "=a", "1=a:2=b",
            "(1, 'a')", "[]", "[[]]",
        ):
            self.refused(read_rows, text)
        self.assertEqual(read_rows(f"{END - 1}=a"), [[(END - 1, "a")]])

    def test_no_text(self):
        for read in (read_rows, read_step, read_yard):
            for thing in whatever() + [0, 1, -1, END, FAR, [[]], [[(1, "a")]], ("rooms", 1), (2, 1, []), ["none"], b"none"]:
                if type(thing) is not str:
                    self.refused(read, thing)


class Steps(TextTest):
    def test_examples(self):
        for step, text in (
            (("row", 0, 0, []), "row 0 0 -"), (("row", 1, 2, [(3, "c"), (5, "a")]), "row 1 2 3=c,5=a"),
            (("row", 130, 130, [(END - 1, "z")]), f"row 130 130 {END - 1}=z"), (("cut", 0, 0), "cut 0 0"),
            (("cut", 130, 12), "cut 130 12"), (("rooms", 1), "rooms 1"), (("rooms", 130), "rooms 130"),
        ):
            self.there_and_back(show_step, read_step, step, text)

    def test_drawn(self):
        draw = Random(910)
        for turn in range(20):
            for step in some_steps(draw):
                self.assertTrue(is_step(self.there_and_back(show_step, read_step, step)))

    def test_texts_by_one_change(self):
        for text in TEXTS_OF_STEPS:
            self.assertTrue(is_step(text))
            for other in [text] + changed(text):
                self.just_where(is_step, show_step, read_step, other)

    def test_numbers(self):
        for number in list(range(0, 135)) + [1000, END, 10 ** 29, 10 ** 30 - 1, 10 ** 30, 10 ** 40]:
            for form in ("row {} 0 -", "row 0 {} -", "cut {} 0", "cut 0 {}", "rooms {}"):
                text = form.replace("{}", str(number))
                fits = number <= 130 and (number > 0 or form != "rooms {}")
                self.assertEqual(is_step(text), fits)
                self.just_where(is_step, show_step, read_step, text)

    def test_other_texts(self):
        for text in (
            "", " ", "none", "-", "row", "cut", "rooms", "row ", "row 0", "row 0 0", "row 0 0 ", "row 0 0 none", "row 0 0 -;-",
            "row 0 0 1=a;2=b", "row 0 0 1=a 2=b", "row 0 0 - -", "row  0 0 -", "row 0  0 -", "row 0 0  -", " row 0 0 -",
            "row 0 0 - ", "row\t0 0 -", "row 0 0 -\n", "Row 0 0 -", "rows 0 0 -", "row 0 - 0", "row 00 0 -", "row 0 01 -",
            "row -1 0 -", "row +1 0 -", "row a 0 -", "cut 0", "cut 0 ", "cut 0 0 0", "cut  0 0", "cut 0 -", "cut 0 131",
            "cut 131 0", "rooms 0", "rooms 131", "rooms 00", "rooms 01", "rooms 1 1", "rooms -1", "rooms +1", "rooms  1",
            "rooms 1 ", "room 1", "rooms one", "1 rooms", "rooms\n1", "cut 0\n0", f"row 0 0 {END}=a", "row 0 0 1=abcdefghi",
        ):
            self.refused(read_step, text)


class Yards(TextTest):
    def test_examples(self):
        for yard, text in (
            ((1, 1, []), "1 1"), ((2, 1, [[[]]]), "2 1 -"), ((8, 130, [[[(1, "a")]]]), "8 130 1=a"),
            ((2, 2, [[[(8, "b")]], [[(3, "c"), (5, "a")]]]), "2 2 8=b 3=c,5=a"),
            ((2, 1, [[], [[], [(1, "a")]], [], [[]]]), "2 1 none -;1=a none -"),
        ):
            self.there_and_back(show_yard, read_yard, yard, text)

    def test_drawn(self):
        draw = Random(911)
        for turn in range(20):
            for yard in some_yards(draw):
                self.assertTrue(is_yard(self.there_and_back(show_yard, read_yard, yard)))

    def test_many_rooms(self):
        for rooms in (1, 64, 130):
            yard = yard_of(2, rooms, some_entries(60, Random(912)))
            self.there_and_back(show_yard, read_yard, yard)

    def test_texts_by_one_change(self):
        for text in TEXTS_OF_YARDS:
            self.assertTrue(is_yard(text))
            for other in [text] + changed(text):
                self.just_where(is_yard, show_yard, read_yard, other)

    def test_numbers(self):
        for number in list(range(0, 135)) + [1000, END, 10 ** 30 - 1, 10 ** 30, 10 ** 40]:
            self.assertEqual(is_yard(f"{number} 1"), 1 <= number <= 8)
            self.assertEqual(is_yard(f"1 {number} -"), 1 <= number <= 130)
            for text in (f"{number} 1", f"{number} 1 -", f"1 {number}", f"1 {number} -"):
                self.just_where(is_yard, show_yard, read_yard, text)

    def test_other_texts(self):
        for text in (
            "", " ", "1", "1 ", " 1", "1 1 ", " 1 1", "1  1", "1 1  -", "1 1 - ", "1 1 none", "1 1 - none", "1 1 none none",
            "0 1 -", "9 1 -", "1 0 -", "1 131 -", "01 1 -", "1 01 -", "+1 1 -", "-1 1 -", "1 -1 -", "a 1 -", "1 a -", "- 1",
            "1 -", "none 1", "1 none", "1 1\t-", "1\t1 -", "1 1 -\n", "1\n1 -", "1,1", "1 1 1=a,", "1 1 1=a;", "1 1 1",
            "1 1 -;none", "1 1 none -;", f"1 1 {END}=a", "1 1 1=abcdefghi", "1 1 1=A", "yard 1 1 -", "(1, 1, [])",
        ):
            self.refused(read_yard, text)


if __name__ == "__main__":
    unittest.main()
