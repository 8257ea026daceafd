"""Tests of bits and rooms [11, 12, 13, 17]. Bits are read off written texts, so not as the program does it."""

import unittest

from tailrooms.bits import joined_of, last_bits, level, room_of, split_of, turn, turned
from plain import grown, level_by_doubling, tail, written
from things import END, drawn_keys, edge_keys, edge_rooms

KEYS = edge_keys() + drawn_keys(200)
ROOMS = edge_rooms()


class BitsTest(unittest.TestCase):
    """What all tests of bits ask with: whole numbers, no truths, and the same once more."""

    def whole(self, ask, answer, *things):
        for again in (False, True):
            told = ask(*things)
            self.assertEqual(told, answer, (ask, things, again))
            self.assertIs(type(told), int, (ask, things))

    def pair(self, ask, answer, *things):
        for again in (False, True):
            told = ask(*things)
            self.assertEqual(told, answer, (ask, things, again))
            self.assertIs(type(told), tuple)
            self.assertEqual([type(number) for number in told], [int, int])


class LastBits(BitsTest):
    def test_no_bits(self):
        for key in KEYS:
            self.whole(last_bits, 0, key, 0)

    def test_all_bits(self):
        for key in KEYS:
            self.whole(last_bits, key, key, 60)

    def test_any_bits(self):
        for key in KEYS:
            for many in range(61):
                self.whole(last_bits, tail(key, many), key, many)

    def test_examples(self):
        self.whole(last_bits, 1, 5, 1)
        self.whole(last_bits, 1, 5, 2)
        self.whole(last_bits, 5, 5, 3)
        self.whole(last_bits, 2 ** 59 - 1, END - 1, 59)


class Level(BitsTest):
    def test_examples(self):
        for rooms, deep, at in ((1, 0, 0), (2, 1, 0), (3, 1, 1), (4, 2, 0), (5, 2, 1), (7, 2, 3), (8, 3, 0)):
            self.whole(level, deep, rooms)
            self.whole(turn, at, rooms)

    def test_powers_of_two(self):
        for bit in range(61):
            self.whole(level, bit, 2 ** bit)
            self.whole(turn, 0, 2 ** bit)

    def test_one_less_than_a_power(self):
        for bit in range(1, 61):
            self.whole(level, bit - 1, 2 ** bit - 1)
            self.whole(turn, 2 ** (bit - 1) - 1, 2 ** bit - 1)

    def test_one_more_than_a_power(self):
        for bit in range(1, 60):
            self.whole(level, bit, 2 ** bit + 1)
            self.whole(turn, 1, 2 ** bit + 1)

    def test_any(self):
        for rooms in ROOMS:
            deep = level_by_doubling(rooms)
            self.whole(level, deep, rooms)
            self.whole(turn, rooms - 2 ** deep, rooms)


class RoomOf(BitsTest):
    def test_examples_by_five_rooms(self):
        self.whole(room_of, 4, 4, 5)
        self.whole(room_of, 0, 8, 5)
        self.whole(room_of, 3, 7, 5)

    def test_one_room(self):
        for key in KEYS:
            self.whole(room_of, 0, key, 1)

    def test_powers_of_two(self):
        for key in KEYS:
            for bit in range(61):
                self.whole(room_of, tail(key, bit), key, 2 ** bit)

    def test_as_many_rooms_as_keys(self):
        for key in KEYS:
            self.whole(room_of, key, key, END)

    def test_by_splitting_one_after_another(self):
        keys = list(range(140)) + KEYS
        for rooms in list(range(1, 40)) + [63, 64, 65, 129, 130]:
            for key, room in grown(keys, rooms).items():
                self.whole(room_of, room, key, rooms)

    def test_the_room_is_told_by_the_last_bits(self):
        for rooms in ROOMS:
            deep = level_by_doubling(rooms)
            for key in KEYS:
                short = tail(key, deep)
                self.assertEqual(room_of(key, rooms), short if short >= rooms - 2 ** deep else tail(key, deep + 1))

    def test_the_room_is_one_that_there_is(self):
        for rooms in ROOMS:
            for key in KEYS:
                self.assertIn(room_of(key, rooms), range(rooms))

    def test_each_room_holds_its_own_number(self):
        for rooms in range(1, 131):
            for room in range(rooms):
                self.whole(room_of, room, room, rooms)


class SplitOf(BitsTest):
    def test_examples(self):
        for rooms, answer in ((1, (0, 1)), (2, (0, 2)), (3, (1, 3)), (4, (0, 4)), (5, (1, 5)), (7, (3, 7)), (8, (0, 8))):
            self.pair(split_of, answer, rooms)

    def test_about_powers_of_two(self):
        for bit in range(1, 60):
            self.pair(split_of, (0, 2 ** bit), 2 ** bit)
            self.pair(split_of, (2 ** (bit - 1) - 1, 2 ** bit - 1), 2 ** bit - 1)
            self.pair(split_of, (1, 2 ** bit + 1), 2 ** bit + 1)
        self.pair(split_of, (2 ** 59 - 1, END - 1), END - 1)

    def test_just_the_keys_with_the_next_bit_go(self):
        for rooms in ROOMS:
            if rooms == END:
                continue
            split, new = split_of(rooms)
            deep = level_by_doubling(rooms)
            own = [split, new, split + (END - 2 ** (deep + 1)), new + (END - 2 ** (deep + 1))]
            for key in KEYS + own:
                ahead = room_of(key, rooms)
                goes = ahead == split and written(key)[59 - deep] == "1"
                self.assertEqual(room_of(key, rooms + 1), new if goes else ahead)

    def test_both_rooms_get_keys(self):
        for rooms in ROOMS:
            if rooms == END:
                continue
            split, new = split_of(rooms)
            self.assertEqual((room_of(split, rooms), room_of(new, rooms)), (split, split))
            self.assertEqual((room_of(split, rooms + 1), room_of(new, rooms + 1)), (split, new))


class JoinedOf(BitsTest):
    def test_one_room(self):
        self.assertIsNone(joined_of(1))
        self.assertIsNone(joined_of(1))

    def test_examples(self):
        for rooms, answer in ((2, (1, 0)), (3, (2, 0)), (4, (3, 1)), (5, (4, 0)), (6, (5, 1)), (8, (7, 3)), (9, (8, 0))):
            self.pair(joined_of, answer, rooms)

    def test_about_powers_of_two(self):
        for bit in range(2, 60):
            self.pair(joined_of, (2 ** bit - 1, 2 ** (bit - 1) - 1), 2 ** bit)
            self.pair(joined_of, (2 ** bit - 2, 2 ** (bit - 1) - 2), 2 ** bit - 1)
            self.pair(joined_of, (2 ** bit, 0), 2 ** bit + 1)
        self.pair(joined_of, (END - 1, 2 ** 59 - 1), END)

    def test_into_is_the_room_without_its_first_bit(self):
        for rooms in ROOMS[1:]:
            into = int("0" + bin(rooms - 1)[3:], 2)
            self.pair(joined_of, (rooms - 1, into), rooms)

    def test_the_join_leads_back(self):
        for rooms in ROOMS:
            if rooms < END:
                split, new = split_of(rooms)
                self.pair(joined_of, (new, split), rooms + 1)

    def test_just_the_last_rooms_keys_go(self):
        for rooms in ROOMS[1:]:
            last, into = joined_of(rooms)
            for key in KEYS + [last, into]:
                ahead = room_of(key, rooms)
                self.assertEqual(room_of(key, rooms - 1), into if ahead == last else ahead)


class Turned(BitsTest):
    def test_examples(self):
        self.whole(turned, 0, 0)
        self.whole(turned, 2 ** 59, 1)
        self.whole(turned, 1, 2 ** 59)
        self.whole(turned, 2 ** 58, 2)
        self.whole(turned, 2 ** 59 + 2 ** 58, 3)
        self.whole(turned, END - 1, END - 1)
        self.whole(turned, END - 2, 2 ** 59 - 1)

    def test_each_bit(self):
        for bit in range(60):
            self.whole(turned, 2 ** (59 - bit), 2 ** bit)

    def test_the_written_bits_backward(self):
        for key in KEYS:
            self.whole(turned, int(written(key)[::-1], 2), key)

    def test_twice_is_the_key(self):
        for key in KEYS:
            self.whole(turned, key, turned(key))


if __name__ == "__main__":
    unittest.main()
