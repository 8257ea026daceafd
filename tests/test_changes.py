"""Tests of changes by steps [3, 7, 44 to 47]."""

import unittest
from copy import deepcopy
from random import Random

from tailrooms.changes import dropping, joining, putting, splitting
from tailrooms.errors import Lacking, NoRoom
from tailrooms.yards import done_all, found, is_clean, yard_of
from plain import plain_backward, plain_onward, plain_rows, plain_yard, ways
from things import END, WORDS, some_entries

SIZES = range(1, 9)


def letters(*keys):
    """Entries of small keys, each with its own letter."""
    return [(key, "abcdefghijklmnopqrstuvwxyz"[key]) for key in keys]


def yards(seed, many, most=24):
    """Pairs of a clean yard and the dict of its entries, by few rooms and by many."""
    draw = Random(seed)
    told = []
    for turn in range(many):
        rooms = draw.choice((1, 1, 2, 2, 3, 4, 5, 6, 7, 8, 9, draw.randint(10, 129)))
        things = dict(some_entries(draw.randint(0, most), draw))
        told.append((yard_of(draw.choice((1, 1, 2, 2, 3, 4, 8)), rooms, list(things.items())), things))
    # Many entries in one room, so that a change has many steps.
    for wide in (1, 2, 3):
        things = {key: draw.choice(WORDS) for key in range(3, 60, 4)}
        told += [(yard_of(wide, rooms, list(things.items())), things) for rooms in (1, 2, 3, 4, 7)]
    return told


def all_found(yard, keys):
    """A dict of what is found of the keys."""
    return {key: found(yard, key)[0] for key in keys if found(yard, key)[0] is not None}


class ChangeTest(unittest.TestCase):
    def steps(self, change, answer, yard, *things):
        """The told steps are just the answer, new, the asker's own; what is handed in stays as it was."""
        ahead = deepcopy(yard)
        told = change(yard, *things)
        self.assertEqual(told, answer, (yard, things))
        self.assertIs(type(told), list)
        for step in told:
            self.assertIs(type(step), tuple)
            kinds = [str, int, int, list] if step[0] == "row" else [str] + [int] * (len(step) - 1)
            self.assertEqual([type(part) for part in step], kinds)
        spoilt = change(yard, *things)
        for step in spoilt:
            if step[0] == "row":
                step[3].append((5, "spoilt"))
        spoilt.clear()
        self.assertEqual(yard, ahead)
        self.assertEqual(change(yard, *things), answer)
        return told

    def leads_to(self, yard, steps, rooms, things):
        """Done whole the steps lead to the clean yard of the entries."""
        there = done_all(yard, steps)
        self.assertEqual(there, plain_yard(yard[0], rooms, things))
        self.assertIs(is_clean(there), True)

    def whole_behind_each(self, yard, steps, things):
        """Behind any first steps each key is found with its thing, and no other key."""
        asked = asked_keys(things)
        for many in range(len(steps) + 1):
            self.assertEqual(all_found(done_all(yard, steps[:many]), asked), things, (yard, steps, many))


def asked_keys(things):
    """The keys of the entries, their neighbours, and others."""
    near = [key + far for key in things for far in (-1, 1, 2, 4)]
    return sorted({key for key in list(things) + near + list(range(12)) + [END - 1, 2 ** 59] if 0 <= key < END})


class Splitting(ChangeTest):
    def test_examples(self):
        a, b, c, d = letters(0, 1, 2, 3)
        self.steps(
            splitting, [("row", 1, 0, [b, d]), ("rooms", 2), ("row", 0, 0, [a, c]), ("cut", 0, 1)],
            yard_of(2, 1, [a, b, c, d]),
        )
        self.steps(
            splitting,
            [("row", 1, 0, [b]), ("row", 1, 1, [d]), ("rooms", 2), ("row", 0, 1, [c]), ("cut", 0, 2)],
            yard_of(1, 1, [a, b, c, d]),
        )
        self.steps(
            splitting, [("row", 2, 0, [c]), ("rooms", 3), ("row", 0, 0, [a])], yard_of(2, 2, [a, b, c, d]),
        )
        self.steps(
            splitting, [("row", 2, 0, [c]), ("rooms", 3), ("cut", 0, 1)], yard_of(1, 2, [a, b, c, d]),
        )

    def test_no_entries(self):
        for rooms in (1, 2, 3, 8, 129):
            self.steps(splitting, [("row", rooms, 0, []), ("rooms", rooms + 1)], yard_of(2, rooms, []))

    def test_where_nothing_goes(self):
        self.steps(splitting, [("row", 1, 0, []), ("rooms", 2)], yard_of(2, 1, letters(0, 2, 4)))
        self.steps(splitting, [("row", 3, 0, []), ("rooms", 4)], yard_of(1, 3, letters(1, 5, 9, 2, 6)))

    def test_where_all_go(self):
        b, d, f = letters(1, 3, 5)
        self.steps(
            splitting, [("row", 1, 0, [b, d]), ("row", 1, 1, [f]), ("rooms", 2), ("row", 0, 0, []), ("cut", 0, 1)],
            yard_of(2, 1, [b, d, f]),
        )
        self.steps(splitting, [("row", 1, 0, [b, d]), ("rooms", 2), ("row", 0, 0, [])], yard_of(2, 1, [b, d]))

    def test_rows_that_are_already_so_get_no_step(self):
        a, c, e, g, h = letters(0, 2, 4, 6, 7)
        self.steps(
            splitting, [("row", 1, 0, [h]), ("rooms", 2), ("cut", 0, 2)], yard_of(2, 1, [a, c, e, g, h]),
        )

    def test_against_the_points(self):
        for yard, things in yards(45, 150):
            wide, rooms, held = yard
            new = rooms
            split = int("0" + bin(new)[3:], 2)
            own = [key for key in things if ways(key, rooms)[-1] == split]
            goes = plain_rows([(key, things[key]) for key in own if ways(key, rooms + 1)[-1] == new], wide)
            stays = plain_rows([(key, things[key]) for key in own if ways(key, rooms + 1)[-1] != new], wide)
            answer = plain_onward(new, [], goes) + [("rooms", rooms + 1)] + plain_onward(split, held[split], stays)
            steps = self.steps(splitting, answer, yard)
            self.leads_to(yard, steps, rooms + 1, things)

    def test_always_whole(self):
        for yard, things in yards(450, 80):
            self.whole_behind_each(yard, splitting(yard), things)


class Joining(ChangeTest):
    def test_examples(self):
        a, b, c, d = letters(0, 1, 2, 3)
        self.steps(
            joining, [("row", 0, 1, [c, d]), ("row", 0, 0, [a, b]), ("rooms", 1), ("cut", 1, 0)],
            yard_of(2, 2, [a, b, c, d]),
        )
        self.steps(
            joining,
            [("row", 0, 3, [d]), ("row", 0, 2, [c]), ("row", 0, 1, [b]), ("rooms", 1), ("cut", 1, 0)],
            yard_of(1, 2, [a, b, c, d]),
        )
        self.steps(joining, [("row", 0, 0, [a, c]), ("rooms", 2), ("cut", 2, 0)], yard_of(2, 3, [a, b, c, d]))

    def test_one_room_alone(self):
        for entries in ([], letters(0, 1, 2)):
            for wide in SIZES:
                yard = yard_of(wide, 1, entries)
                with self.assertRaises(NoRoom) as taken:
                    joining(yard)
                self.assertEqual((type(taken.exception), taken.exception.number), (NoRoom, 0))
                self.assertIs(type(taken.exception.number), int)
                self.assertEqual(yard, plain_yard(wide, 1, dict(entries)))

    def test_an_empty_last_room(self):
        for rooms in (2, 3, 8, 130):
            self.steps(joining, [("rooms", rooms - 1), ("cut", rooms - 1, 0)], yard_of(2, rooms, []))
        self.steps(joining, [("rooms", 1), ("cut", 1, 0)], yard_of(1, 2, letters(0, 2, 4)))

    def test_an_empty_other_room(self):
        b, d, f = letters(1, 3, 5)
        self.steps(
            joining, [("row", 0, 1, [f]), ("row", 0, 0, [b, d]), ("rooms", 1), ("cut", 1, 0)],
            yard_of(2, 2, [b, d, f]),
        )

    def test_rows_that_are_already_so_get_no_step(self):
        a, c, h = letters(0, 2, 7)
        self.steps(joining, [("row", 0, 1, [h]), ("rooms", 1), ("cut", 1, 0)], yard_of(2, 2, [a, c, h]))

    def test_against_the_points(self):
        for yard, things in yards(46, 150):
            wide, rooms, held = yard
            if rooms > 1:
                last = rooms - 1
                into = int("0" + bin(last)[3:], 2)
                own = [(key, things[key]) for key in things if ways(key, rooms - 1)[-1] == into]
                answer = plain_backward(into, held[into], plain_rows(own, wide))
                steps = self.steps(joining, answer + [("rooms", last), ("cut", last, 0)], yard)
                self.leads_to(yard, steps, last, things)

    def test_always_whole(self):
        for yard, things in yards(460, 80):
            if yard[1] > 1:
                self.whole_behind_each(yard, joining(yard), things)

    def test_a_joining_leads_back(self):
        for yard, things in yards(461, 60):
            there = done_all(yard, splitting(yard))
            self.assertEqual(done_all(there, joining(there)), yard)


class Putting(ChangeTest):
    def test_a_new_key(self):
        a, b, c, d, e = letters(0, 1, 2, 3, 4)
        self.steps(putting, [("row", 0, 0, [a])], yard_of(2, 1, []), *a)
        self.steps(putting, [("row", 0, 0, [a, b])], yard_of(2, 1, [b]), *a)
        self.steps(putting, [("row", 0, 1, [c])], yard_of(2, 1, [a, b]), *c)
        self.steps(putting, [("row", 0, 1, [c]), ("row", 0, 0, [a, b])], yard_of(2, 1, [b, c]), *a)
        self.steps(
            putting, [("row", 0, 2, [e]), ("row", 0, 1, [c, d]), ("row", 0, 0, [a, b])], yard_of(2, 1, [b, c, d, e]), *a,
        )
        self.steps(putting, [("row", 0, 2, [e]), ("row", 0, 1, [c, d])], yard_of(2, 1, [a, b, c, e]), *d)
        self.steps(putting, [("row", 1, 0, [b])], yard_of(2, 3, [a, c]), *b)

    def test_another_thing(self):
        a, b, c = letters(0, 1, 2)
        self.steps(putting, [("row", 0, 0, [a, (1, "z")])], yard_of(2, 1, [a, b, c]), 1, "z")
        self.steps(putting, [("row", 0, 1, [(2, "z")])], yard_of(2, 1, [a, b, c]), 2, "z")
        self.steps(putting, [("row", 0, 0, [(0, "z")])], yard_of(1, 1, [a, b, c]), 0, "z")

    def test_the_very_entry(self):
        for yard, things in yards(44, 30):
            for key in things:
                self.steps(putting, [], yard, key, things[key])

    def test_against_the_points(self):
        draw = Random(47)
        for yard, things in yards(48, 80, 12):
            for key, thing in some_entries(4, draw) + [(key, "new") for key in things]:
                steps = self.steps(putting, self.points(yard, things, key, thing), yard, key, thing)
                self.leads_to(yard, steps, yard[1], {**things, key: thing})

    def points(self, yard, things, key, thing):
        wide, rooms, held = yard
        room = ways(key, rooms)[-1]
        own = {other: things[other] for other in things if ways(other, rooms)[-1] == room}
        own[key] = thing
        return plain_backward(room, held[room], plain_rows(list(own.items()), wide))

    def test_always_whole(self):
        draw = Random(470)
        for yard, things in yards(471, 40, 12):
            for key, thing in some_entries(3, draw) + [(other, "new") for other in things] + [(0, "x"), (3, "y")]:
                steps = putting(yard, key, thing)
                after = {**things, key: thing}
                asked = asked_keys(after)
                for many in range(len(steps) + 1):
                    there = all_found(done_all(yard, steps[:many]), asked)
                    self.assertEqual(there, after if many == len(steps) else things)


class Dropping(ChangeTest):
    def test_the_first_a_middle_the_last(self):
        a, b, c, d, e = letters(0, 1, 2, 3, 4)
        yard = yard_of(2, 1, [a, b, c, d, e])
        self.steps(dropping, [("row", 0, 0, [b, c]), ("row", 0, 1, [d, e]), ("cut", 0, 2)], yard, 0)
        self.steps(dropping, [("row", 0, 1, [d, e]), ("cut", 0, 2)], yard, 2)
        self.steps(dropping, [("row", 0, 1, [c, e]), ("cut", 0, 2)], yard, 3)
        self.steps(dropping, [("cut", 0, 2)], yard, 4)
        self.steps(dropping, [("row", 0, 1, [c])], yard_of(2, 1, [a, b, c, d]), 3)
        self.steps(dropping, [("row", 0, 0, [b]), ("row", 0, 1, [c]), ("cut", 0, 2)], yard_of(1, 1, [a, b, c]), 0)

    def test_the_only_entry(self):
        for rooms, key in ((1, 0), (1, 7), (8, 7), (130, END - 1)):
            room = ways(key, rooms)[-1]
            self.steps(dropping, [("row", room, 0, [])], yard_of(2, rooms, [(key, "a")]), key)

    def test_lacking(self):
        for yard in (yard_of(2, 1, []), yard_of(2, 1, letters(0, 2, 3)), yard_of(1, 3, letters(0, 2, 3))):
            ahead = deepcopy(yard)
            for key in (1, 4, 5, 6, END - 1):
                with self.assertRaises(Lacking) as taken:
                    dropping(yard, key)
                self.assertEqual((type(taken.exception), taken.exception.key), (Lacking, key))
            self.assertEqual(yard, ahead)
            there = done_all(yard, putting(yard, 5, "a"))
            self.assertEqual(done_all(there, dropping(there, 5)), yard)

    def test_against_the_points(self):
        for yard, things in yards(49, 80, 12):
            wide, rooms, held = yard
            for key in things:
                room = ways(key, rooms)[-1]
                others = {other: things[other] for other in things if other != key}
                own = [(other, others[other]) for other in others if ways(other, rooms)[-1] == room]
                answer = plain_onward(room, held[room], plain_rows(own, wide))
                steps = self.steps(dropping, answer, yard, key)
                self.leads_to(yard, steps, rooms, others)

    def test_always_whole(self):
        for yard, things in yards(490, 60, 14):
            asked = asked_keys(things)
            for key in things:
                steps = dropping(yard, key)
                self.assertNotEqual(steps, [])
                others = {other: things[other] for other in things if other != key}
                for many in range(len(steps) + 1):
                    there = all_found(done_all(yard, steps[:many]), asked)
                    self.assertEqual(there, things if many == 0 else others)


if __name__ == "__main__":
    unittest.main()
