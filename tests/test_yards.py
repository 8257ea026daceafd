"""Tests of yards and steps [3, 41, 42, 43]."""

import unittest
from copy import deepcopy
from random import Random

from tailrooms.yards import done, done_all, found, is_clean, yard_of
from plain import plain_done, plain_found, plain_yard
from things import END, drawn_keys, edge_keys, some_entries

SIZES = range(1, 9)
ROOMS = [1, 2, 3, 4, 5, 7, 8, 9, 16, 31, 64, 100, 129, 130]
A, B, C, D = (0, "a"), (1, "b"), (2, "c"), (3, "d")


def spoil(yard):
    """Changes all lists of a yard."""
    for rows in yard[2]:
        for row in rows:
            row.append((7, "spoilt"))
            row.reverse()
        rows.append([(8, "spoilt")])
    yard[2].append([[(9, "spoilt")]])


class YardTest(unittest.TestCase):
    def kinds_of(self, yard):
        self.assertEqual([type(part) for part in (yard,) + yard], [tuple, int, int, list])
        for rows in yard[2]:
            self.assertIs(type(rows), list)
            for row in rows:
                self.assertIs(type(row), list)
                self.assertEqual([type(entry) for entry in row], [tuple] * len(row))


class YardOf(YardTest):
    def yard(self, wide, rooms, entries):
        handed = list(entries)
        told = yard_of(wide, rooms, handed)
        self.assertEqual(told, plain_yard(wide, rooms, dict(entries)))
        self.kinds_of(told)
        spoil(yard_of(wide, rooms, handed))
        self.assertEqual(handed, entries)
        self.assertEqual(yard_of(wide, rooms, handed), told)
        handed.clear()
        self.assertEqual(told, plain_yard(wide, rooms, dict(entries)))
        return told

    def test_no_entries(self):
        for wide in SIZES:
            for rooms in ROOMS:
                self.assertEqual(self.yard(wide, rooms, []), (wide, rooms, [[[]]] * rooms))

    def test_examples(self):
        self.assertEqual(self.yard(2, 1, [C, A, B]), (2, 1, [[[A, B], [C]]]))
        self.assertEqual(self.yard(1, 2, [D, C, A, B]), (1, 2, [[[A], [C]], [[B], [D]]]))
        self.assertEqual(self.yard(2, 3, [D, B]), (2, 3, [[[]], [[B, D]], [[]]]))

    def test_whatever_order(self):
        draw = Random(41)
        for rooms in ROOMS:
            for many in (1, 2, 30, 120):
                entries = some_entries(many, draw)
                wide = draw.choice(SIZES)
                told = self.yard(wide, rooms, entries)
                self.assertEqual(self.yard(wide, rooms, entries[::-1]), told)
                self.assertEqual(self.yard(wide, rooms, sorted(entries)), told)


class IsClean(YardTest):
    def clean(self, yard, answer):
        ahead = deepcopy(yard)
        for again in (False, True):
            self.assertIs(is_clean(yard), answer, yard)
        self.assertEqual(yard, ahead)

    def test_clean_yards(self):
        draw = Random(410)
        for rooms in ROOMS:
            for many in (0, 1, 2, 20, 120):
                self.clean(yard_of(draw.choice(SIZES), rooms, some_entries(many, draw)), True)

    def test_small_examples(self):
        self.clean((2, 1, [[[]]]), True)
        self.clean((2, 1, [[[A]]]), True)
        self.clean((2, 1, [[[A, B], [C]]]), True)
        self.clean((2, 2, [[[A]], [[B]]]), True)
        self.clean((3, 1, [[[A, B], [C]]]), False)
        self.clean((1, 1, [[[A, B], [C]]]), False)
        self.clean((2, 1, [[[A], [B]]]), False)
        self.clean((2, 1, [[[A], [B, C]]]), False)
        self.clean((2, 1, [[[B, A]]]), False)
        self.clean((1, 1, [[[B], [A]]]), False)
        self.clean((2, 2, [[[B]], [[A]]]), False)
        self.clean((2, 2, [[[A, B]], [[]]]), False)

    def test_rooms_and_rows_too_many_or_too_few(self):
        self.clean((2, 1, []), False)
        self.clean((2, 2, [[[A]]]), False)
        self.clean((2, 2, [[[A]], [[]]]), True)
        self.clean((2, 1, [[[A]], [[]]]), False)
        self.clean((2, 1, [[[A]], [[B]]]), False)
        self.clean((2, 2, [[], [[B]]]), False)
        self.clean((2, 3, [[[A]], [], [[]]]), False)
        self.clean((2, 3, [[[A]], [[]], [[]]]), True)
        self.clean((2, 1, [[[], []]]), False)
        self.clean((2, 1, [[[A], []]]), False)
        self.clean((2, 1, [[[], [A]]]), False)

    def test_an_entry_twice(self):
        self.clean((2, 1, [[[A, A]]]), False)
        self.clean((1, 1, [[[A], [A]]]), False)
        self.clean((2, 1, [[[A, (0, "b")]]]), False)
        self.clean((2, 2, [[[A], [A]], [[]]]), False)
        self.clean((2, 2, [[[A]], [[A]]]), False)

    def test_each_yard_that_comes_by_one_change(self):
        draw = Random(411)
        for rooms in (1, 2, 3, 5, 8, 13):
            for wide in (1, 2, 3, 8):
                yard = yard_of(wide, rooms, some_entries(draw.randint(5, 14), draw))
                changed = self.changed(yard)
                self.assertGreater(len(changed), 10)
                for other in changed:
                    self.assertNotEqual(other, yard)
                    self.clean(other, False)
                self.clean(yard, True)

    def changed(self, yard):
        """Yards that come of a clean one by one change, none of them clean."""
        wide, rooms, held = yard
        told = [(wide, rooms + 1, held), (wide, rooms + 130, held), (wide, rooms, held + [[[]]])]
        told += [(wide, rooms - 1, held)] * (rooms > 1)
        told += [(wide, rooms, held[:-1])] * (rooms > 1)
        places = [(room, at) for room in range(rooms) for at in range(len(held[room]))]
        for room in range(rooms):
            told += [self.with_rows(yard, room, rows) for rows in self.spoilt(held[room], wide)]
            if room < rooms - 1:
                told.append(self.with_rows(yard, room, []))
        told += [self.exchanged(yard, room) for room in range(rooms - 1) if held[room] != held[room + 1]]
        for room, at in places:
            for entry in held[room][at]:
                for other in range(rooms):
                    if other != room:
                        told.append(self.moved(yard, room, at, entry, other))
        return told

    def spoilt(self, rows, wide):
        """Other rows of a room with the same entries, or one of them twice."""
        told = [rows + [[]], [[]] + rows]
        for at in range(len(rows) - 1):
            told.append(rows[:at] + [rows[at] + rows[at + 1]] + rows[at + 2:])
            told.append(rows[:at] + [rows[at + 1], rows[at]] + rows[at + 2:])
            told.append(rows[:at] + [rows[at][:-1], rows[at][-1:] + rows[at + 1]] + rows[at + 2:])
            told.append(rows[:at] + [[]] + rows[at:])
            one, other = rows[at], rows[at + 1]
            told.append(rows[:at] + [one[:-1] + other[:1], one[-1:] + other[1:]] + rows[at + 2:])
        for at, row in enumerate(rows):
            if row:
                told.append(rows[:at] + [row + row[-1:]] + rows[at + 1:])
                told.append(rows[:at] + [row, row] + rows[at + 1:])
                # The entry twice, the rows cut as if they were right.
                flat = sorted([entry for each in rows for entry in each] + [row[0]])
                told.append([flat[place:place + wide] for place in range(0, len(flat), wide)])
            if len(row) > 1:
                told.append(rows[:at] + [row[::-1]] + rows[at + 1:])
                told.append(rows[:at] + [row[:1], row[1:]] + rows[at + 1:])
        return told

    def with_rows(self, yard, room, rows):
        wide, rooms, held = yard
        return (wide, rooms, held[:room] + [rows] + held[room + 1:])

    def exchanged(self, yard, room):
        """The room's rows and those of the next one exchanged."""
        wide, rooms, held = yard
        return (wide, rooms, held[:room] + [held[room + 1], held[room]] + held[room + 2:])

    def moved(self, yard, room, at, entry, other):
        """The entry in another room, each room's rows cut as they should be."""
        wide, rooms, held = yard
        entries = [[each for row in rows for each in row] for rows in held]
        entries[room].remove(entry)
        entries[other] = sorted(entries[other] + [entry])
        return (wide, rooms, [[own[k:k + wide] for k in range(0, len(own), wide)] or [[]] for own in entries])


class Done(YardTest):
    def done(self, yard, step, answer=None):
        ahead, step_ahead = deepcopy(yard), deepcopy(step)
        told = done(yard, step)
        self.assertEqual(told, plain_done(yard, step) if answer is None else answer, (yard, step))
        self.assertEqual(told, plain_done(yard, step))
        self.kinds_of(told)
        spoil(done(yard, step))
        self.assertEqual((yard, step), (ahead, step_ahead))
        self.assertEqual(done(yard, step), told)
        self.assertEqual(done_all(yard, [step]), told)
        return told

    def test_a_row_that_is_there(self):
        self.done((2, 1, [[[A], [B]]]), ("row", 0, 0, [C, D]), (2, 1, [[[C, D], [B]]]))
        self.done((2, 1, [[[A], [B]]]), ("row", 0, 1, [C]), (2, 1, [[[A], [C]]]))
        self.done((2, 1, [[[A], [B]]]), ("row", 0, 1, []), (2, 1, [[[A], []]]))
        self.done((2, 1, [[[A], [B]]]), ("row", 0, 0, [A]), (2, 1, [[[A], [B]]]))

    def test_a_row_that_is_not_there_yet(self):
        self.done((2, 1, [[[A]]]), ("row", 0, 1, [B]), (2, 1, [[[A], [B]]]))
        self.done((2, 1, [[[A]]]), ("row", 0, 3, [B]), (2, 1, [[[A], [], [], [B]]]))
        self.done((2, 1, [[[A]]]), ("row", 0, 2, []), (2, 1, [[[A], [], []]]))

    def test_a_room_that_is_not_there_yet(self):
        self.done((2, 1, [[[A]]]), ("row", 1, 0, [B]), (2, 1, [[[A]], [[B]]]))
        self.done((2, 1, [[[A]]]), ("row", 3, 0, [B]), (2, 1, [[[A]], [], [], [[B]]]))
        self.done((2, 1, [[[A]]]), ("row", 2, 2, [B]), (2, 1, [[[A]], [], [[], [], [B]]]))
        self.done((2, 1, []), ("row", 0, 0, []), (2, 1, [[[]]]))
        self.done((2, 1, []), ("row", 1, 0, [A]), (2, 1, [[], [[A]]]))

    def test_far_beyond(self):
        self.done((2, 1, [[[A]]]), ("row", 130, 0, [B]), (2, 1, [[[A]]] + [[]] * 129 + [[[B]]]))
        self.done((2, 1, [[[A]]]), ("row", 0, 130, [B]), (2, 1, [[[A]] + [[]] * 129 + [[B]]]))
        self.done((2, 1, [[[A]]]), ("cut", 130, 0), (2, 1, [[[A]]]))
        self.done((2, 1, [[[A]]]), ("cut", 0, 130), (2, 1, [[[A]]]))
        self.done((2, 1, [[[A]]]), ("rooms", 130), (2, 130, [[[A]]]))

    def test_a_room_without_rows_amid_gets_one(self):
        self.done((2, 3, [[[A]], [], [[C]]]), ("row", 1, 0, [B]), (2, 3, [[[A]], [[B]], [[C]]]))
        self.done((2, 3, [[[A]], [], [[C]]]), ("row", 1, 1, [B]), (2, 3, [[[A]], [[], [B]], [[C]]]))

    def test_a_cut(self):
        yard = (1, 2, [[[A], [C]], [[B], [D], []]])
        self.done(yard, ("cut", 0, 0), (1, 2, [[], [[B], [D], []]]))
        self.done(yard, ("cut", 0, 1), (1, 2, [[[A]], [[B], [D], []]]))
        self.done(yard, ("cut", 0, 2), yard)
        self.done(yard, ("cut", 0, 3), yard)
        self.done(yard, ("cut", 1, 1), (1, 2, [[[A], [C]], [[B]]]))
        self.done(yard, ("cut", 1, 0), (1, 2, [[[A], [C]]]))
        self.done(yard, ("cut", 2, 0), yard)
        self.done(yard, ("cut", 5, 3), yard)

    def test_the_last_rooms_without_rows_are_left_away(self):
        self.done((1, 2, [[[A]], [], [], [[B]]]), ("cut", 3, 0), (1, 2, [[[A]]]))
        self.done((1, 2, [[], [], [[B]]]), ("cut", 2, 0), (1, 2, []))
        self.done((1, 2, [[[A]], [], [[B]], [[]]]), ("cut", 3, 0), (1, 2, [[[A]], [], [[B]]]))

    def test_rooms_without_rows_amid_stay(self):
        self.done((1, 2, [[[A]], [[B]], [[C]]]), ("cut", 1, 0), (1, 2, [[[A]], [], [[C]]]))
        self.done((1, 2, [[], [], [[C]]]), ("rooms", 5), (1, 5, [[], [], [[C]]]))
        self.done((1, 2, [[], [], [[C]]]), ("row", 2, 0, []), (1, 2, [[], [], [[]]]))

    def test_rooms_with_rows_without_entries_stay(self):
        self.done((1, 2, [[[A]], [[B]], [[]]]), ("cut", 1, 0), (1, 2, [[[A]], [], [[]]]))
        self.done((1, 2, [[[A]], [[B]]]), ("row", 1, 0, []), (1, 2, [[[A]], [[]]]))

    def test_a_number_of_rooms(self):
        for many in (1, 2, 3, 130):
            self.done((2, 2, [[[A]], [[B]], [[C]]]), ("rooms", many), (2, many, [[[A]], [[B]], [[C]]]))

    def test_any_entries_may_stand_in_a_row(self):
        self.done((1, 1, [[[A]]]), ("row", 0, 0, [D, B, B, A]), (1, 1, [[[D, B, B, A]]]))

    def test_drawn_steps(self):
        draw = Random(42)
        for turn in range(60):
            yard = yard_of(draw.choice(SIZES), draw.randint(1, 6), some_entries(draw.randint(0, 10), draw))
            steps = [drawn_step(draw) for at in range(25)]
            there = yard
            ahead = deepcopy((yard, steps))
            for at, step in enumerate(steps):
                there = self.done(there, step)
                told = done_all(yard, steps[:at + 1])
                self.assertEqual(told, there)
                spoil(told)
            self.assertEqual((yard, steps), ahead)
            self.assertEqual(done_all(yard, steps), there)

    def test_no_steps(self):
        for yard in ((2, 1, [[[A]]]), (2, 3, []), (1, 1, [[], [[B], []], [], [[]]]), yard_of(2, 5, [A, B, C])):
            told = done_all(yard, [])
            self.assertEqual(told, yard)
            self.kinds_of(told)
            ahead = deepcopy(yard)
            spoil(told)
            self.assertEqual(yard, ahead)

    def test_the_step_is_not_kept(self):
        row = [A, B]
        told = done((2, 1, [[[]]]), ("row", 0, 0, row))
        row.append(C)
        self.assertEqual(told, (2, 1, [[[A, B]]]))
        told[2][0][0].clear()
        self.assertEqual(row, [A, B, C])

    def test_the_yard_is_not_kept(self):
        yard = (2, 1, [[[A]]])
        for step in (("rooms", 2), ("cut", 0, 5), ("cut", 7, 0), ("row", 1, 0, [B])):
            told = done(yard, step)
            ahead = deepcopy(told)
            spoil(yard)
            self.assertEqual(told, ahead)
            yard = (2, 1, [[[A]]])


def drawn_step(draw):
    """A step of one of the three kinds, the small places oftener."""
    room, at = draw.choice((0, 1, 2, 3, draw.randint(0, 9))), draw.choice((0, 1, 2, draw.randint(0, 9)))
    kind = draw.choice(("row", "row", "cut", "rooms"))
    if kind == "row":
        return (kind, room, at, sorted(some_entries(draw.randint(0, 3), draw)))
    return (kind, room, draw.choice((0, at))) if kind == "cut" else (kind, at + 1)


class Found(YardTest):
    def found(self, yard, key, *answer):
        ahead = deepcopy(yard)
        for again in (False, True):
            told = found(yard, key)
            self.assertEqual(told, plain_found(yard, key), (yard, key))
            self.assertEqual([type(told), type(told[1])], [tuple, int])
            if answer:
                self.assertEqual(told, answer, (yard, key))
        self.assertEqual(yard, ahead)

    def test_where_the_room_is_there(self):
        yard = yard_of(2, 2, [(key, "abcdefgh"[key]) for key in range(8)])
        for key, looks in ((0, 1), (1, 1), (2, 1), (3, 1), (4, 2), (5, 2), (6, 2), (7, 2)):
            self.found(yard, key, "abcdefgh"[key], looks)
        self.found(yard, 8, None, 2)
        self.found(yard, END - 1, None, 2)

    def test_where_held_has_no_such_room(self):
        for key in (1, 3, 5, END - 1):
            self.found((2, 2, [[[A]]]), key, None, 0)
            self.found((2, 2, []), key, None, 0)
        self.found((2, 130, [[[A]]]), 129, None, 0)
        self.found((2, 130, [[[A]]]), 0, "a", 1)

    def test_in_rooms_without_rows(self):
        self.found((2, 2, [[], [[B]]]), 0, None, 0)
        self.found((2, 2, [[], [[B]]]), 1, "b", 1)

    def test_in_rows_without_entries(self):
        self.found((2, 1, [[[]]]), 5, None, 1)
        self.found((2, 1, [[[], [], []]]), 5, None, 3)
        self.found((2, 1, [[[], [A], [], [B, D], []]]), 0, "a", 2)
        self.found((2, 1, [[[], [A], [], [B, D], []]]), 3, "d", 4)
        self.found((2, 1, [[[], [A], [], [B, D], []]]), 2, None, 4)
        self.found((2, 1, [[[], [A], [], [B, D], []]]), 4, None, 5)

    def test_a_key_that_stands_behind_the_row_at_which_the_look_ends(self):
        self.found((2, 1, [[[A, D], [B, C]]]), 1, None, 1)
        self.found((2, 1, [[[A, D], [B, C]]]), 3, "d", 1)
        self.found((2, 1, [[[D], [A], [B]]]), 0, None, 1)

    def test_the_first_of_two_rows_with_the_key(self):
        self.found((2, 1, [[[A, B], [(1, "z"), C]]]), 1, "b", 1)
        self.found((2, 1, [[[A], [(0, "z"), C]]]), 0, "a", 1)

    def test_a_key_in_a_wrong_room(self):
        self.found((2, 2, [[[A, B]], [[]]]), 1, None, 1)
        self.found((2, 1, [[[A]], [[B]]]), 1, None, 1)

    def test_clean_yards(self):
        draw = Random(43)
        for rooms in ROOMS:
            for many in (0, 1, 20, 120):
                entries = some_entries(many, draw)
                yard = yard_of(draw.choice(SIZES), rooms, entries)
                for key, thing in entries:
                    self.found(yard, key)
                    self.assertEqual(found(yard, key)[0], thing)
                for key in draw.sample(edge_keys() + drawn_keys(60), 30):
                    self.found(yard, key)
                    self.assertEqual(found(yard, key)[0], dict(entries).get(key))

    def test_any_yards(self):
        draw = Random(430)
        for turn in range(200):
            held = []
            for room in range(draw.randint(0, 5)):
                rows = [sorted(draw.sample(range(20), draw.randint(0, 4))) for at in range(draw.randint(0, 4))]
                held.append([[(key, draw.choice("abc")) for key in row] for row in rows])
            while held and not held[-1]:
                held.pop()
            for key in range(20):
                self.found((2, draw.randint(1, 6), held), key)


if __name__ == "__main__":
    unittest.main()
