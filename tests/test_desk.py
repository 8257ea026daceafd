"""Tests of the desk [3, 5, 92 to 94]."""

import unittest
from random import Random

from tailrooms.desk import Desk
from tailrooms.errors import Busy, Full, Lacking, NoLine, NoName, NoSize, Taken
from tailrooms.further import greatest_spill, least_spill
from tailrooms.keeper import Keeper
from tailrooms.trails import parted, stay, trail
from plain import ways
from refusing import RefusalTest
from things import END, FAR, WORDS, drawn_keys, edge_keys, some_entries, whatever

ASKED = ("left", "rooms", "room", "keys", "settled")
NO_NUMBERS = ("", "-", "-1", "+1", "01", "00", "1.0", "1_0", "a", "1a", "one", "\t1", "1\n", "1" * 31, "0x1", "1,", "None")
NO_KEYS = NO_NUMBERS + (str(END), str(END + 1), "9" * 30, "9" * 19)
NO_NAMES = ("", "A", "aB", "a1", "1", "abcdefghi", "a-b", "a_b", "a\t", "a\n", "-", "a.b", "Name")
NO_ROOMS = NO_NUMBERS + ("0", str(END + 1), "9" * 30)
# For each line's first word words of the right kinds, and for each of them the words that are none of its kind.
FORMS = {
    "keep": (("new", "2", "3"), (NO_NAMES, NO_NUMBERS, NO_NUMBERS)),
    "put": (("one", "5", "thing"), (NO_NAMES, NO_KEYS, NO_NAMES)),
    "drop": (("one", "4"), (NO_NAMES, NO_KEYS)),
    "mend": (("one",), (NO_NAMES,)),
    "run": (("one",), (NO_NAMES,)),
    "stop": (("one",), (NO_NAMES,)),
    "step": (("one",), (NO_NAMES,)),
    "left": (("one",), (NO_NAMES,)),
    "find": (("one", "4"), (NO_NAMES, NO_KEYS)),
    "rooms": (("one",), (NO_NAMES,)),
    "room": (("one", "0"), (NO_NAMES, NO_NUMBERS)),
    "keys": (("one",), (NO_NAMES,)),
    "settled": (("one",), (NO_NAMES,)),
    "where": (("5", "3"), (NO_KEYS, NO_ROOMS)),
    "trail": (("5", "3"), (NO_KEYS, NO_ROOMS)),
    "stay": (("5", "1"), (NO_KEYS, NO_KEYS)),
    "parted": (("5", "6"), (NO_KEYS, NO_KEYS)),
}
COUNTED = {"greatest": ("2", "3", "1", "0", "5"), "least": ("2", "3", "1", "0", "5")}
NO_WIDES = NO_NUMBERS + ("0", "9", "10", "9" * 30)
NO_MORES = NO_NUMBERS + (str(10 ** 10 + 1), "9" * 30)
NO_COUNTS = NO_NUMBERS + (str(10 ** 9 + 1), str(10 ** 10), "9" * 30)


def told(desk, names):
    """All that the desk tells of its keepers, nothing being done."""
    lines = [f"{word} {name}" + " 0" * (word == "room") for name in names for word in ASKED]
    return [desk.say(line) for line in lines]


def started(*lines):
    desk = Desk()
    for line in lines:
        desk.say(line)
    return desk


class DeskTest(RefusalTest):
    def says(self, desk, line, answer):
        text = desk.say(line)
        self.assertEqual(text, answer, line)
        self.assertIs(type(text), str)

    def no_line(self, desk, line):
        seen = repr(line)
        with self.assertRaises(NoLine, msg=line) as taken:
            desk.say(line)
        self.assertIs(type(taken.exception), NoLine)
        self.assertEqual(repr(line), seen)

    def names_refused(self, refusal, desk, line, name):
        with self.assertRaises(refusal, msg=line) as taken:
            desk.say(line)
        self.assertIs(type(taken.exception), refusal)
        self.assertEqual((taken.exception.name, type(taken.exception.name)), (name, str))

    def refuses(self, refusal, name, thing, desk, line):
        """Like a keeper the desk refuses with that class and thing."""
        with self.assertRaises(refusal, msg=line) as taken:
            desk.say(line)
        self.assertIs(type(taken.exception), refusal)
        if name is not None:
            self.assertEqual(getattr(taken.exception, name), thing)
            self.assertIs(type(getattr(taken.exception, name)), type(thing))


class Keepers(DeskTest):
    def test_a_day_at_the_desk(self):
        desk = Desk()
        for line, answer in (
            ("keep one 2 2", "ok"), ("settled one", "yes"), ("keys one", "none"), ("left one", "none"), ("step one", "none"),
            ("rooms one", "1"), ("room one 0", "-"), ("room one 1", "none"), ("run one", "0"), ("stop one", "0"),
            ("mend one", "0"), ("put one 5 a", "1"), ("left one", "row 0 0 5=a"), ("settled one", "no"),
            ("step one", "row 0 0 5=a"), ("step one", "none"), ("settled one", "yes"), ("put one 5 a", "0"),
            ("put one 8 b", "1"), ("run one", "1"), ("room one 0", "5=a,8=b"), ("find one 8", "b 1"),
            ("put one 3 c", "6"),
            ("left one", "row 0 1 8=b / row 0 0 3=c,5=a / row 1 0 3=c,5=a / rooms 2 / row 0 0 8=b / cut 0 1"),
            ("keys one", "5 8"), ("step one", "row 0 1 8=b"), ("step one", "row 0 0 3=c,5=a"), ("keys one", "3 5 8"),
            ("room one 0", "3=c,5=a;8=b"), ("find one 8", "b 2"), ("step one", "row 1 0 3=c,5=a"), ("rooms one", "1"),
            ("room one 1", "3=c,5=a"), ("room one 2", "none"), ("stop one", "3"), ("left one", "none"),
            ("settled one", "no"), ("mend one", "5"),
            ("left one", "cut 1 0 / row 1 0 3=c,5=a / rooms 2 / row 0 0 8=b / cut 0 1"), ("run one", "5"),
            ("settled one", "yes"), ("rooms one", "2"), ("room one 0", "8=b"), ("room one 1", "3=c,5=a"),
            ("drop one 5", "4"), ("left one", "row 1 0 3=c / row 0 0 3=c,8=b / rooms 1 / cut 1 0"),
            ("step one", "row 1 0 3=c"), ("step one", "row 0 0 3=c,8=b"), ("step one", "rooms 1"), ("step one", "cut 1 0"),
            ("keys one", "3 8"), ("room one 1", "none"), ("find one 3", "c 1"),
        ):
            self.says(desk, line, answer)

    def test_a_room_without_rows_amid(self):
        desk = started("keep one 1 1", "put one 2 a", "run one", "put one 4 b", "run one", "put one 6 c")
        self.says(desk, "room one 3", "none")
        while desk.say("step one") != "none":
            self.says(desk, "room one 130", "none")
        self.says(desk, "room one 1", "-")
        self.says(desk, f"room one {END}", "none")
        self.says(desk, "room one " + "9" * 30, "none")

    def test_against_a_keeper(self):
        draw = Random(92)
        for turn in range(12):
            wide, fill = draw.choice((1, 2, 3)), draw.choice((1, 2, 4))
            desk, keeper = started(f"keep one {wide} {fill}"), Keeper(wide, fill)
            keys = [key for key, thing in some_entries(12, draw)]
            for at in range(120):
                key, thing = draw.choice(keys), draw.choice(WORDS)
                line, deed = draw.choice((
                    (f"put one {key} {thing}", lambda: keeper.put(key, thing)), (f"drop one {key}", lambda: keeper.drop(key)),
                    ("mend one", keeper.mend), ("run one", keeper.run), ("run one", keeper.run), ("stop one", keeper.stop),
                    (f"find one {key}", lambda: " ".join(map(str, keeper.find(key)))),
                ))
                try:
                    answer = str(deed())
                except (Busy, Lacking) as refusal:
                    self.refuses(type(refusal), None, None, desk, line)
                else:
                    self.says(desk, line, answer)
                self.says(desk, "settled one", "yes" if keeper.settled() else "no")
                self.says(desk, "keys one", " ".join(str(key) for key, thing in keeper.entries()) or "none")
                self.says(desk, "rooms one", str(keeper.yard()[1]))
                self.assertEqual(desk.say("left one").count(" / "), max(0, len(keeper.left()) - 1))
                if draw.random() < 0.5:
                    step = keeper.step()
                    self.says(desk, "step one", self.plain_step(step))

    def plain_step(self, step):
        if step is None:
            return "none"
        if step[0] != "row":
            return " ".join(map(str, step))
        return f"row {step[1]} {step[2]} " + (",".join(f"{key}={thing}" for key, thing in step[3]) or "-")

    def test_keepers_of_one_desk_know_nothing_of_one_another(self):
        desk = started("keep one 1 1", "keep two 2 8", "keep none 8 8", "keep keep 1 8")
        names = ("two", "none", "keep")
        seen = told(desk, names)
        for line in ("put one 5 a", "step one", "put one 6 b", "step one", "stop one", "mend one"):
            desk.say(line)
            self.assertEqual(told(desk, names), seen)
        seen = told(desk, ("one", "none", "keep"))
        for line in ("put two 5 z", "run two", "drop two 5", "run two"):
            desk.say(line)
            self.assertEqual(told(desk, ("one", "none", "keep")), seen)

    def test_desks_know_nothing_of_one_another(self):
        one, other = Desk(), Desk()
        self.says(one, "keep a 1 1", "ok")
        self.names_refused(NoName, other, "settled a", "a")
        self.says(other, "keep a 2 2", "ok")
        self.says(one, "put a 5 a", "1")
        self.says(other, "settled a", "yes")
        self.says(other, "put a 6 b", "1")
        self.says(one, "left a", "row 0 0 5=a")


class Further(DeskTest):
    def test_where(self):
        desk = Desk()
        for line, answer in (("where 4 5", "4"), ("where 8 5", "0"), ("where 7 5", "3"), ("where 0 1", "0")):
            self.says(desk, line, answer)
        self.says(desk, f"where {END - 1} {END}", str(END - 1))
        self.says(desk, f"where {END - 1} {END - 1}", str(END // 2 - 1))
        for key in drawn_keys(20) + edge_keys()[::9]:
            for rooms in (1, 2, 3, 64, 100, 130):
                self.says(desk, f"where {key} {rooms}", str(ways(key, rooms)[-1]))

    def test_trail(self):
        desk = Desk()
        self.says(desk, "trail 6 100", "1:0 3:2 7:6")
        self.says(desk, "trail 6 6", "1:0 3:2")
        self.says(desk, "trail 0 100", "1:0")
        self.says(desk, f"trail {2 ** 59} {END}", f"1:0 {2 ** 59 + 1}:{2 ** 59}")
        for key in drawn_keys(20):
            for rooms in (1, 2, 9, 130, END):
                self.says(desk, f"trail {key} {rooms}", " ".join(f"{many}:{room}" for many, room in trail(key, rooms)))

    def test_stay(self):
        desk = Desk()
        for room, answer in ((0, "1 3"), (2, "3 7"), (6, "7 ever"), (4, "never"), (1, "never"), (END - 1, "never")):
            self.says(desk, f"stay 6 {room}", answer)
        self.says(desk, "stay 0 0", "1 ever")
        self.says(desk, f"stay {END - 1} {END - 1}", f"{END} ever")
        for key in range(20):
            for room in range(20):
                got = stay(key, room)
                answer = "never" if got is None else f"{got[0]} " + ("ever" if got[1] is None else str(got[1]))
                self.says(desk, f"stay {key} {room}", answer)

    def test_parted(self):
        desk = Desk()
        self.says(desk, "parted 2 6", "7")
        self.says(desk, "parted 6 2", "7")
        self.says(desk, "parted 0 1", "2")
        for key in (0, 5, END - 1):
            self.says(desk, f"parted {key} {key}", "alike")
        self.says(desk, f"parted 0 {2 ** 59}", str(2 ** 59 + 1))
        keys = drawn_keys(12)
        for one in keys:
            for other in keys:
                self.says(desk, f"parted {one} {other}", "alike" if one == other else str(parted(one, other)))

    def test_greatest_and_least(self):
        desk = Desk()
        self.says(desk, "greatest 3 3 1 3 5", "3")
        self.says(desk, "least 3 3 1 3 5", "1")
        self.says(desk, "greatest 3 4 0", "1")
        self.says(desk, "least 3 3 0", "0")
        self.says(desk, "greatest 1 10000000000 1000000000", "10999999999")
        self.says(desk, "least 8 0 1000000000", "124999999")
        draw = Random(93)
        for many in (1, 2, 9, 119, 120):
            for wide in range(1, 9):
                counts = [draw.choice((0, 1, wide, wide + 1, 50, 10 ** 9)) for at in range(many)]
                for more in (0, 1, wide, 77, 10 ** 10):
                    words = " ".join(map(str, [wide, more] + counts))
                    self.says(desk, "greatest " + words, str(greatest_spill(counts, wide, more)[0]))
                    self.says(desk, "least " + words, str(least_spill(counts, wide, more)[0]))


class Refused(DeskTest):
    def desk(self):
        """A desk with a keeper that has an entry, and one amid a change."""
        return started("keep one 2 2", "put one 4 a", "run one", "keep two 1 1", "put two 7 b")

    def test_what_is_no_text(self):
        desk = self.desk()
        seen = told(desk, ("one", "two"))
        lines = whatever() + [0, 1, -1, END, FAR, ["settled one"], ["settled", "one"], ("settled", "one"), b"settled one"]
        for line in lines + [{"settled": "one"}, ["where", 4, 5]]:
            self.no_line(desk, line)
        self.assertEqual(told(desk, ("one", "two")), seen)

    def test_no_line_of_these(self):
        desk = self.desk()
        for line in (
            "", " ", "  ", "\n", "\t", "one", "Keep new 2 2", "KEEP new 2 2", "kept new 2 2", "find", "look one", "yard one",
            "entries one", "count one", "exit", "help", "none", "ok", "-", "5", "settled", "settled two ", " settled two",
            "settled  two", "settled\ttwo", "settled two\n", "\nsettled two", "settled,two", "settledtwo", "two settled",
        ):
            self.no_line(desk, line)

    def test_too_few_and_too_many_words(self):
        desk = self.desk()
        seen = told(desk, ("one", "two"))
        for word, (words, nones) in FORMS.items():
            for many in range(len(words)):
                self.no_line(desk, " ".join((word,) + words[:many]))
            for more in ("", "1", "one", "a"):
                self.no_line(desk, " ".join((word,) + words + (more,)))
                self.no_line(desk, " ".join((word,) + words + (more, more)))
        for word in COUNTED:
            for line in (word, word + " 2", word + " 2 3", word + " 2 3 ", word + " 2 3 1 "):
                self.no_line(desk, line)
            self.no_line(desk, word + " 2 3" + " 1" * 121)
            self.no_line(desk, word + " 2 3" + " 1" * 130)
            self.no_line(desk, word + " 2 3" + " 1" * 500)
            desk.say(word + " 2 3" + " 1" * 120)
        self.assertEqual(told(desk, ("one", "two")), seen)

    def test_words_that_are_none_of_their_kind(self):
        desk = self.desk()
        seen = told(desk, ("one", "two"))
        for word, (words, nones) in FORMS.items():
            for at, others in enumerate(nones):
                for other in others:
                    self.no_line(desk, " ".join((word,) + words[:at] + (other,) + words[at + 1:]))
        for word, words in COUNTED.items():
            for at in range(len(words)):
                for other in (NO_WIDES, NO_MORES, NO_COUNTS)[min(at, 2)]:
                    self.no_line(desk, " ".join((word,) + words[:at] + (other,) + words[at + 1:]))
        self.assertEqual(told(desk, ("one", "two")), seen)

    def test_each_of_these_lines_is_taken_as_it_is(self):
        lines = [(word,) + words for word, (words, nones) in FORMS.items()]
        for words in lines + [(word,) + words for word, words in COUNTED.items()]:
            self.assertIs(type(self.desk().say(" ".join(words))), str)

    def test_numbers_at_their_edges(self):
        desk = self.desk()
        for line in (
            f"where {END - 1} 1", f"where 0 {END}", f"trail 0 {END}", f"stay 0 {END - 1}", f"parted 0 {END - 1}",
            "greatest 8 10000000000 1000000000", "least 1 0 0", f"room one {10 ** 30 - 1}",
        ):
            self.assertIs(type(desk.say(line)), str)
        for line in (
            f"where {END} 1", "where 0 0", f"where 0 {END + 1}", f"trail 0 {END + 1}", "trail 0 0", f"stay 0 {END}",
            f"parted 0 {END}", f"parted {END} 0", "greatest 0 1 1", "greatest 9 1 1", "least 0 1 1", "least 9 1 1",
            "greatest 1 10000000001 1", "least 1 10000000001 1", "greatest 1 1 1000000001", "least 1 1 0 1000000001",
            f"room one {10 ** 30}", f"put one {END} a", f"find one {END}", f"drop one {END}",
        ):
            self.no_line(desk, line)

    def test_no_name(self):
        desk = self.desk()
        for word, (words, nones) in FORMS.items():
            if words[0] == "one":
                for name in ("three", "on", "onee", "a", "zzzzzzzz"):
                    self.names_refused(NoName, desk, " ".join((word, name) + words[1:]), name)
        self.says(desk, "keep three 1 1", "ok")
        self.says(desk, "settled three", "yes")

    def test_no_line_ahead_of_no_name(self):
        desk = self.desk()
        for line in ("put three -1 a", "put three 5 A", "put three 5", "find three x", "room three -1", "drop three", "run three 5"):
            self.no_line(desk, line)

    def test_taken(self):
        desk = self.desk()
        seen = told(desk, ("one", "two"))
        for name in ("one", "two"):
            for sizes in ("1 1", "2 2", "0 0", "9 1", "1 9", "0 1", "99999 5"):
                self.names_refused(Taken, desk, f"keep {name} {sizes}", name)
            for sizes in ("", "1", "a 1", "1 a", "1 1 1", "01 1", "1 -1", "-1 0"):
                self.no_line(desk, f"keep {name} {sizes}")
        self.assertEqual(told(desk, ("one", "two")), seen)

    def test_no_size(self):
        desk = self.desk()
        for wide, fill, size in (
            (0, 1, 0), (9, 1, 9), (1, 0, 0), (1, 9, 9), (0, 9, 0), (9, 0, 9), (8, 10 ** 30 - 1, 10 ** 30 - 1), (100, 200, 100),
        ):
            self.refuses(NoSize, "thing", size, desk, f"keep new {wide} {fill}")
            self.names_refused(NoName, desk, "settled new", "new")
        self.says(desk, "keep new 8 8", "ok")
        self.says(desk, "settled new", "yes")

    def test_as_the_keeper_refuses(self):
        desk = self.desk()
        seen = told(desk, ("one", "two"))
        self.refuses(Lacking, "key", 5, desk, "drop one 5")
        self.refuses(Lacking, "key", END - 1, desk, f"find one {END - 1}")
        self.refuses(Lacking, "key", 7, desk, "find two 7")
        for line in ("put two 7 b", "put two 8 c", "drop two 7", "drop two 9", "mend two"):
            self.refuses(Busy, None, None, desk, line)
        self.assertEqual(told(desk, ("one", "two")), seen)
        self.says(desk, "run two", "1")
        self.says(desk, "find two 7", "b 1")
        self.says(desk, "drop two 7", "1")

    def test_full(self):
        desk = started("keep one 8 8")
        for key in range(64):
            desk.say(f"put one {key} a")
            desk.say("run one")
        seen = told(desk, ("one",))
        self.refuses(Full, "many", 64, desk, "put one 64 a")
        self.assertEqual(told(desk, ("one",)), seen)
        self.says(desk, "put one 63 z", "1")
        self.refuses(Busy, None, None, desk, "put one 64 a")


if __name__ == "__main__":
    unittest.main()
