"""Tests of marks and stretches [3, 5, 71]."""

import unittest
from random import Random

from tailrooms import marks
from tailrooms.errors import NoMark
from tailrooms.marks import line_of, room_at, stretch_of
from plain import plain_turned, ways
from refusing import RefusalTest
from things import END, NO_MARKS, drawn_keys, edge_keys

ALL_ROOMS = range(1, 131)


def room_by_key(mark, rooms):
    """The room of the key whose turned key is the mark."""
    return ways(plain_turned(mark), rooms)[-1]


class End(unittest.TestCase):
    def test_end(self):
        self.assertEqual(marks.END, 2 ** 60)
        self.assertIs(type(marks.END), int)


class StretchOf(unittest.TestCase):
    def stretch(self, room, rooms, *answer):
        told = stretch_of(room, rooms)
        self.assertEqual([type(part) for part in (told,) + told], [tuple, int, int])
        self.assertEqual(stretch_of(room, rooms), told)
        if answer:
            self.assertEqual(told, answer[0])
        return told

    def test_one_room(self):
        self.stretch(0, 1, (0, END))

    def test_examples(self):
        half, quarter, eighth = END // 2, END // 4, END // 8
        self.stretch(0, 2, (0, half))
        self.stretch(1, 2, (half, END))
        self.stretch(0, 3, (0, quarter))
        self.stretch(1, 3, (half, END))
        self.stretch(2, 3, (quarter, half))
        self.stretch(3, 4, (half + quarter, END))
        self.stretch(0, 5, (0, eighth))
        self.stretch(4, 5, (eighth, quarter))
        self.stretch(1, 5, (half, half + quarter))

    def test_just_the_rooms_keys_lie_within(self):
        draw = Random(71)
        keys = list(range(20)) + draw.sample(edge_keys(), 25) + drawn_keys(25)
        for rooms in ALL_ROOMS:
            stretches = [self.stretch(room, rooms) for room in range(rooms)]
            for key in keys:
                mark = plain_turned(key)
                within = [room for room, (first, behind) in enumerate(stretches) if first <= mark < behind]
                self.assertEqual(within, [ways(key, rooms)[-1]], (key, rooms))

    def test_the_edges_of_each_stretch(self):
        for rooms in ALL_ROOMS:
            for room in range(rooms):
                first, behind = self.stretch(room, rooms)
                self.assertTrue(0 <= first < behind <= END)
                for mark in (first, first + 1, (first + behind) // 2, behind - 1):
                    self.assertEqual(room_by_key(mark, rooms), room)
                for mark in (first - 1, behind):
                    if 0 <= mark < END:
                        self.assertNotEqual(room_by_key(mark, rooms), room)


class LineOf(unittest.TestCase):
    def test_examples(self):
        self.assertEqual(line_of(1), [0])
        self.assertEqual(line_of(2), [0, 1])
        self.assertEqual(line_of(3), [0, 2, 1])
        self.assertEqual(line_of(4), [0, 2, 1, 3])
        self.assertEqual(line_of(5), [0, 4, 2, 1, 3])
        self.assertEqual(line_of(8), [0, 4, 2, 6, 1, 5, 3, 7])

    def test_each_stretch_begins_where_the_one_ahead_ends(self):
        for rooms in ALL_ROOMS:
            line = line_of(rooms)
            self.assertEqual([type(line)] + [type(room) for room in line], [list] + [int] * rooms)
            self.assertEqual(sorted(line), list(range(rooms)))
            mark = 0
            for room in line:
                first, behind = stretch_of(room, rooms)
                self.assertEqual(first, mark)
                mark = behind
            self.assertEqual(mark, END)

    def test_the_list_is_the_askers_own(self):
        for rooms in (1, 2, 5, 130):
            told = line_of(rooms)
            ahead = list(told)
            line_of(rooms).clear()
            again = line_of(rooms)
            again.reverse()
            again.append(None)
            self.assertEqual(told, ahead)
            self.assertEqual(line_of(rooms), ahead)


class RoomAt(RefusalTest):
    def room(self, mark, rooms, answer):
        for again in (False, True):
            told = room_at(mark, rooms)
            self.assertEqual(told, answer, (mark, rooms))
            self.assertIs(type(told), int)

    def test_edges(self):
        for rooms in ALL_ROOMS:
            for room in range(rooms):
                first, behind = stretch_of(room, rooms)
                self.room(first, rooms, room)
                self.room(behind - 1, rooms, room)
            line = line_of(rooms)
            self.room(0, rooms, 0)
            self.room(0, rooms, line[0])
            self.room(END - 1, rooms, line[-1])

    def test_drawn_marks(self):
        for rooms in ALL_ROOMS:
            for mark in drawn_keys(30) + [1, 2, END // 2 - 1, END // 2, END - 2]:
                self.room(mark, rooms, room_by_key(mark, rooms))

    def test_no_mark(self):
        for rooms in (1, 2, 5, 130):
            for mark in NO_MARKS:
                ahead = repr(mark)
                self.refused(NoMark, "mark", mark, room_at, mark, rooms)
                self.assertEqual(repr(mark), ahead)


if __name__ == "__main__":
    unittest.main()
