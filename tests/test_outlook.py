"""Tests of the outlook [3, 9, 65]."""

import unittest
from random import Random

from tailrooms.further import greatest_spill, least_spill
from tailrooms.outlook import outlook
from filling import filled_by_keys
from plain import all_puts, plain_rooms_for, plain_spill, plain_spread, ways
from things import END, edge_keys, some_keys

SIZES = range(1, 9)


def keys_by(put, keys, rooms):
    """Further keys, unlike all others, as many to each room as the put tells."""
    told = []
    key = 0
    left = list(put)
    while any(left):
        room = ways(key, rooms)[-1]
        if left[room] > 0 and key not in keys:
            told.append(key)
            left[room] -= 1
        key += 1
    return told


class Outlook(unittest.TestCase):
    def outlook(self, keys, wide, fill, more, *answer):
        handed = list(keys)
        told = outlook(handed, wide, fill, more)
        self.assertEqual([type(part) for part in (told,) + told], [tuple, int, int, int])
        self.assertEqual(outlook(handed, wide, fill, more), told)
        self.assertEqual(handed, keys)
        rooms, least, greatest = told
        self.assertEqual(rooms, plain_rooms_for(len(keys) + more, fill))
        counts = [len(own) for own in plain_spread(keys, rooms)]
        self.assertEqual(least, least_spill(counts, wide, more)[0])
        self.assertEqual(greatest, greatest_spill(counts, wide, more)[0])
        if answer:
            self.assertEqual(told, answer[0])
        return told

    def test_no_keys(self):
        for wide in SIZES:
            for fill in SIZES:
                self.outlook([], wide, fill, 0, (1, 0, 0))
                for more in (1, 2, 9, 63, 64):
                    self.outlook([], wide, fill, more)
        self.outlook([], 2, 4, 1, (1, 0, 0))
        self.outlook([], 2, 4, 4, (1, 1, 1))
        self.outlook([], 2, 4, 5, (2, 1, 2))
        self.outlook([], 1, 1, 64, (64, 0, 63))
        self.outlook([], 8, 8, 64, (8, 0, 7))

    def test_no_further_keys(self):
        draw = Random(65)
        for wide in SIZES:
            for fill in SIZES:
                keys = some_keys(draw.choice((1, 2, 5, 20, 40)), draw)
                table = filled_by_keys(wide, fill, keys)
                self.outlook(keys, wide, fill, 0, (table.rooms(), table.spill(), table.spill()))

    def test_full(self):
        draw = Random(650)
        for wide in SIZES:
            for fill in SIZES:
                keys = some_keys(64, draw)
                table = filled_by_keys(wide, fill, keys)
                self.outlook(keys, wide, fill, 0, (table.rooms(), table.spill(), table.spill()))
                for many in (1, 32, 63):
                    self.outlook(keys[:many], wide, fill, 64 - many)

    def test_whatever_order(self):
        draw = Random(651)
        for many in (2, 9, 40):
            keys = some_keys(many, draw)
            told = self.outlook(keys, 2, 3, 9)
            self.outlook(keys[::-1], 2, 3, 9, told)
            self.outlook(sorted(keys), 2, 3, 9, told)

    def test_examples(self):
        self.outlook([1, 3, 5], 2, 3, 1, (2, 1, 1))
        self.outlook([1, 3, 5, 7], 2, 4, 1, (2, 1, 2))
        self.outlook([1, 3, 5, 7], 2, 8, 1, (1, 2, 2))
        self.outlook([END - 1, END - 2], 1, 1, 1, (3, 0, 1))
        self.outlook([0, 4, 8], 1, 1, 2, (5, 1, 3))

    def test_against_all_puts(self):
        draw = Random(652)
        for turn in range(150):
            keys = some_keys(draw.randint(0, 6), draw)
            more, wide, fill = draw.randint(0, 4), draw.choice((1, 2, 3, 4)), draw.choice((2, 3, 4, 8))
            rooms, least, greatest = self.outlook(keys, wide, fill, more)
            counts = [len(own) for own in plain_spread(keys, rooms)]
            spills = [plain_spill([a + b for a, b in zip(counts, put)], wide) for put in all_puts(rooms, more)]
            self.assertEqual((least, greatest), (min(spills), max(spills)))


class Spill(unittest.TestCase):
    def test_whichever_keys_come(self):
        draw = Random(9)
        for turn in range(200):
            keys = some_keys(draw.randint(0, 120), draw)[:64]
            stand = keys[:draw.randint(0, len(keys))]
            wide, fill = draw.choice(SIZES), draw.choice(SIZES)
            rooms, least, greatest = outlook(stand, wide, fill, len(keys) - len(stand))
            table = filled_by_keys(wide, fill, keys)
            self.assertEqual(table.rooms(), rooms)
            self.assertTrue(least <= table.spill() <= greatest)

    def test_both_can_be(self):
        draw = Random(90)
        for turn in range(80):
            keys = [key % 2 ** draw.choice((6, 60)) for key in some_keys(draw.randint(0, 40), draw)]
            keys = sorted(set(keys + draw.sample(edge_keys(), 2)))
            more, wide, fill = draw.randint(0, 64 - len(keys)), draw.choice(SIZES), draw.choice(SIZES)
            rooms, least, greatest = outlook(keys, wide, fill, more)
            counts = [len(own) for own in plain_spread(keys, rooms)]
            for answer, told in ((least, least_spill), (greatest, greatest_spill)):
                put = told(counts, wide, more)[1]
                table = filled_by_keys(wide, fill, keys + keys_by(put, keys, rooms))
                self.assertEqual((table.count(), table.rooms(), table.spill()), (len(keys) + more, rooms, answer))


if __name__ == "__main__":
    unittest.main()
