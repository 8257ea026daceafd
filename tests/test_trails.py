"""Tests of a key's way through the rooms [8, 14, 15, 16]."""

import unittest

from tailrooms.bits import room_of
from tailrooms.trails import parted, stay, trail
from plain import tail, ways, written
from things import END, drawn_keys, edge_keys, edge_rooms

FEW = list(range(140)) + edge_keys()[::3] + drawn_keys(30)
KEYS = edge_keys() + drawn_keys(120)
PAIRS = [(one, one ^ 2 ** bit) for one in edge_keys()[::9] + drawn_keys(10) for bit in range(60)]


def steps_of(key, rooms):
    """The trail, read off the key's rooms by each number of rooms."""
    told = []
    for many, room in enumerate(ways(key, rooms), 1):
        if told == [] or told[-1][1] != room:
            told.append((many, room))
    return told


def marked(key):
    """All rooms of the key: its written bits from each 1 on to the last one, and room 0."""
    return [0] + [tail(key, many) for many in range(1, 61) if written(key)[60 - many] == "1"]


class TrailTest(unittest.TestCase):
    def trail(self, key, rooms, answer):
        for again in (False, True):
            told = trail(key, rooms)
            self.assertEqual(told, answer, (key, rooms, again))
            self.assertIs(type(told), list)
            for pair in told:
                self.assertIs(type(pair), tuple)
                self.assertEqual([type(number) for number in pair], [int, int])
            # What the asker does to the told list changes nothing later.
            told.clear()

    def stay(self, key, room, answer):
        for again in (False, True):
            told = stay(key, room)
            self.assertEqual(told, answer, (key, room, again))
            self.assertIs(type(told), type(answer))
            for number in told or ():
                self.assertIn(type(number), (int, type(None)))

    def parted(self, one, other, answer):
        for first, second in ((one, other), (other, one), (one, other)):
            told = parted(first, second)
            self.assertEqual(told, answer, (first, second))
            self.assertIs(type(told), int)


class Trail(TrailTest):
    def test_one_room(self):
        for key in KEYS:
            self.trail(key, 1, [(1, 0)])

    def test_the_key_0(self):
        for rooms in edge_rooms():
            self.trail(0, rooms, [(1, 0)])

    def test_the_key_6(self):
        for rooms, many in ((1, 1), (2, 1), (3, 2), (6, 2), (7, 3), (8, 3), (END, 3)):
            self.trail(6, rooms, [(1, 0), (3, 2), (7, 6)][:many])

    def test_against_each_number_of_rooms(self):
        for key in FEW:
            whole = steps_of(key, 130)
            for rooms in range(1, 131):
                self.trail(key, rooms, [pair for pair in whole if pair[0] <= rooms])

    def test_against_room_of_by_each_number_of_rooms(self):
        for key in FEW:
            by_many = dict(trail(key, 130))
            room = None
            for many in range(1, 131):
                room = by_many.get(many, room)
                self.assertEqual(room_of(key, many), room, (key, many))

    def test_far_keys_by_few_rooms(self):
        self.trail(END - 1, 2, [(1, 0), (2, 1)])
        self.trail(END - 1, 3, [(1, 0), (2, 1)])
        self.trail(END - 1, 4, [(1, 0), (2, 1), (4, 3)])
        self.trail(2 ** 59, 130, [(1, 0)])
        self.trail(2 ** 59 + 5, 5, [(1, 0), (2, 1)])
        self.trail(2 ** 59 + 5, 6, [(1, 0), (2, 1), (6, 5)])

    def test_by_as_many_rooms_as_there_may_be(self):
        self.trail(END - 1, END, [(2 ** bit, 2 ** bit - 1) for bit in range(61)])
        self.trail(END - 1, END - 1, [(2 ** bit, 2 ** bit - 1) for bit in range(60)])
        self.trail(2 ** 59, END, [(1, 0), (2 ** 59 + 1, 2 ** 59)])
        self.trail(2 ** 59, 2 ** 59, [(1, 0)])
        self.trail(2 ** 59, 2 ** 59 + 1, [(1, 0), (2 ** 59 + 1, 2 ** 59)])

    def test_the_rooms_are_the_last_bits_up_to_each_1(self):
        for key in KEYS:
            self.trail(key, END, [(room + 1, room) for room in marked(key)])

    def test_far_rooms_against_room_of(self):
        for key in KEYS:
            for rooms in edge_rooms()[::3]:
                told = trail(key, rooms)
                self.assertEqual(told[0], (1, 0))
                self.assertEqual(told[-1][1], room_of(key, rooms))
                for many, room in told:
                    self.assertLessEqual(many, rooms)
                    self.assertEqual(room_of(key, many), room)
                for (many, room), (next_many, next_room) in zip(told, told[1:]):
                    self.assertLess(many, next_many)
                    self.assertLess(room, next_room)
                    self.assertEqual(room_of(key, next_many - 1), room)

    def test_just_where_the_next_room_comes(self):
        for key in KEYS:
            whole = trail(key, END)
            for at, (many, room) in enumerate(whole[1:], 1):
                self.trail(key, many - 1, whole[:at])
                self.trail(key, many, whole[:at + 1])


class Stay(TrailTest):
    def test_examples_of_the_key_6(self):
        self.stay(6, 0, (1, 3))
        self.stay(6, 2, (3, 7))
        self.stay(6, 6, (7, None))
        self.stay(6, 4, None)

    def test_the_key_0(self):
        self.stay(0, 0, (1, None))
        for room in KEYS:
            if room != 0:
                self.stay(0, room, None)

    def test_the_last_room(self):
        for key in KEYS:
            if key != 0:
                self.stay(key, key, (key + 1, None))

    def test_each_room_of_the_trail(self):
        for key in KEYS:
            rooms = marked(key)
            for room, further in zip(rooms, rooms[1:] + [None]):
                self.stay(key, room, (room + 1, None if further is None else further + 1))

    def test_one_more_or_less_than_a_room(self):
        for key in KEYS:
            rooms = marked(key)
            for room in rooms:
                for other in (room - 1, room + 1):
                    if 0 <= other < END and other not in rooms:
                        self.stay(key, other, None)

    def test_far_rooms(self):
        for key in KEYS:
            for room in (2 ** 58, 2 ** 59, 2 ** 59 + 1, 2 ** 59 + 2 ** 58, END - 2, END - 1):
                if room not in marked(key):
                    self.stay(key, room, None)
                    self.assertNotEqual(room_of(key, room + 1), room)
        self.stay(END - 1, 2 ** 59 - 1, (2 ** 59, END))
        self.stay(2 ** 59, 0, (1, 2 ** 59 + 1))

    def test_against_each_number_of_rooms(self):
        for key in FEW:
            by_many = ways(key, 130)
            for room in range(130):
                there = [many for many in range(1, 131) if by_many[many - 1] == room]
                told = stay(key, room)
                if told is None:
                    self.assertEqual(there, [], (key, room))
                    self.assertNotIn(room, marked(key))
                    continue
                first, behind = told
                last = 131 if behind is None else min(131, behind)
                self.assertEqual(there, list(range(first, last)), (key, room))

    def test_against_room_of_at_the_edges(self):
        for key in KEYS:
            for room in marked(key):
                first, behind = stay(key, room)
                self.assertEqual(room_of(key, first), room)
                if first > 1:
                    self.assertNotEqual(room_of(key, first - 1), room)
                if behind is None:
                    self.assertEqual(room_of(key, END), room)
                else:
                    self.assertEqual(room_of(key, behind - 1), room)
                    self.assertNotEqual(room_of(key, behind), room)


class Parted(TrailTest):
    def test_examples(self):
        self.parted(0, 1, 2)
        self.parted(0, 2, 3)
        self.parted(1, 3, 4)
        self.parted(2, 6, 7)
        self.parted(0, 4, 5)
        self.parted(5, 4, 2)
        self.parted(0, 2 ** 59, 2 ** 59 + 1)
        self.parted(END - 1, 2 ** 59 - 1, END)
        self.parted(END - 1, END - 2, 2)

    def test_unlike_in_one_bit(self):
        for one, other in PAIRS:
            bit = (one ^ other).bit_length() - 1
            self.parted(one, other, max(tail(one, bit + 1), tail(other, bit + 1)) + 1)

    def test_the_further_bits_do_nothing(self):
        for one, other in PAIRS:
            bit = (one ^ other).bit_length() - 1
            for far in drawn_keys(6):
                moved = (other + far * 2 ** (bit + 1)) % END
                self.parted(one, moved, parted(one, other))

    def test_against_each_number_of_rooms(self):
        keys = list(range(40)) + drawn_keys(30)
        for one in keys:
            for other in keys:
                if one != other:
                    self.held_by(one, other, range(1, 131))

    def test_about_the_told_number(self):
        for one, other in PAIRS:
            told = parted(one, other)
            self.held_by(one, other, [max(1, told - 2), max(1, told - 1), told, min(END, told + 1)])
            self.held_by(one, other, edge_rooms()[::7] + [END])

    def held_by(self, one, other, numbers):
        """By the told number and by greater ones the rooms are unlike, by each lesser one the same."""
        told = parted(one, other)
        for rooms in numbers:
            self.assertEqual(room_of(one, rooms) != room_of(other, rooms), rooms >= told, (one, other, rooms))


class StayParted(unittest.TestCase):
    def test_by_each_number_of_rooms(self):
        keys = list(range(0, 140, 3)) + drawn_keys(30)
        for one in keys:
            for other in keys:
                unlike = [here != there for here, there in zip(ways(one, 130), ways(other, 130))]
                told = [room_of(one, many) != room_of(other, many) for many in range(1, 131)]
                self.assertEqual(told, unlike)
                self.assertEqual(told, sorted(told))


if __name__ == "__main__":
    unittest.main()
