"""Tests of keys spread over rooms, the spill and the looks [23, 24, 25]."""

import unittest
from random import Random

from tailrooms.bits import room_of
from tailrooms.rows import rows_of
from tailrooms.spread import all_looks, counts, longest, spill, spread
from plain import plain_longest, plain_rows, plain_spill, plain_spread
from things import END, drawn_keys, edge_keys

SIZES = range(1, 9)
ROOMS = list(range(1, 10)) + [15, 16, 17, 31, 32, 33, 63, 64, 65, 127, 128, 129, 130]
FAR = 10 ** 9


def some_lists():
    """Lists of unlike keys: none, one, few, many; in whatever order."""
    draw = Random(23)
    told = [[], [0], [END - 1], [1, 0], list(range(120)), list(range(119, -1, -1)), edge_keys()[:120]]
    told.append([128 * at + 5 for at in range(60)])
    for many in (2, 3, 8, 40, 120):
        keys = sorted(set(drawn_keys(200)))
        draw.shuffle(keys)
        told.append(keys[:many])
    return told


LISTS = some_lists()


class Spread(unittest.TestCase):
    def spread(self, keys, rooms):
        handed = list(keys)
        told = spread(handed, rooms)
        self.assertEqual(told, plain_spread(keys, rooms), (keys, rooms))
        self.assertEqual([type(own) for own in [told] + told], [list] * (rooms + 1))
        again = spread(handed, rooms)
        for own in again:
            own.append(-1)
        again.clear()
        self.assertEqual(spread(handed, rooms), told)
        self.assertEqual(handed, keys)
        return told

    def test_no_keys(self):
        for rooms in ROOMS:
            self.assertEqual(self.spread([], rooms), [[]] * rooms)

    def test_one_room(self):
        for keys in LISTS:
            self.assertEqual(self.spread(keys, 1), [sorted(keys)])

    def test_examples(self):
        self.assertEqual(self.spread([7, 8, 4], 5), [[8], [], [], [7], [4]])
        self.assertEqual(self.spread([6, 4, 2, 0], 2), [[0, 2, 4, 6], []])
        self.assertEqual(self.spread([6, 4, 2, 0], 3), [[0, 4], [], [2, 6]])
        self.assertEqual(self.spread([END - 1, 3, 1], 4), [[], [1], [], [3, END - 1]])

    def test_each_number_of_rooms(self):
        for rooms in range(1, 131):
            self.spread(LISTS[-1], rooms)

    def test_lists_by_rooms(self):
        for keys in LISTS:
            for rooms in ROOMS:
                told = self.spread(keys, rooms)
                for number, own in enumerate(told):
                    self.assertEqual(own, [key for key in sorted(keys) if room_of(key, rooms) == number])


class Counts(unittest.TestCase):
    def test_lists_by_rooms(self):
        for keys in LISTS:
            for rooms in ROOMS:
                handed = list(keys)
                told = counts(handed, rooms)
                self.assertEqual(told, [len(own) for own in plain_spread(keys, rooms)])
                self.assertEqual([type(told)] + [type(many) for many in told], [list] + [int] * rooms)
                told.append(1)
                self.assertEqual(counts(handed, rooms), told[:-1])
                self.assertEqual(handed, keys)

    def test_examples(self):
        self.assertEqual(counts([], 1), [0])
        self.assertEqual(counts([], 3), [0, 0, 0])
        self.assertEqual(counts([4, 8, 7], 5), [1, 0, 0, 1, 1])
        self.assertEqual(counts([9, 1, 5], 1), [3])

    def test_they_come_to_all_keys(self):
        for keys in LISTS:
            for rooms in range(1, 131):
                self.assertEqual(sum(counts(keys, rooms)), len(keys))


class Spill(unittest.TestCase):
    def spill(self, handed, wide, answer):
        ahead = list(handed)
        for again in (False, True):
            told = spill(handed, wide)
            self.assertEqual(told, answer, (handed, wide, again))
            self.assertIs(type(told), int)
        self.assertEqual(handed, ahead)

    def test_no_counts(self):
        for wide in SIZES:
            self.spill([], wide, 0)

    def test_rooms_without_keys_spill_nothing(self):
        for wide in SIZES:
            for rooms in (1, 2, 130):
                self.spill([0] * rooms, wide, 0)

    def test_examples(self):
        self.spill([3], 2, 1)
        self.spill([0, 1, 2, 3, 4, 5], 2, 0 + 0 + 0 + 1 + 1 + 2)
        self.spill([0, 5], 1, 4)
        self.spill([8, 9, 16, 17], 8, 0 + 1 + 1 + 2)

    def test_multiples_and_beside(self):
        for wide in SIZES:
            for times in (1, 2, 3, 50, FAR // 8):
                self.spill([times * wide], wide, times - 1)
                self.spill([times * wide + 1], wide, times)
                self.spill([0, times * wide, 0, times * wide + 1], wide, 2 * times - 1)

    def test_far_counts(self):
        self.spill([FAR] * 130, 1, 130 * (FAR - 1))
        self.spill([FAR, FAR - 1], 8, 2 * (FAR // 8 - 1))
        self.spill([FAR, FAR + 1], 8, 2 * FAR // 8 - 1)
        self.spill([11 * FAR], 7, 11 * FAR // 7)

    def test_drawn(self):
        draw = Random(24)
        for turn in range(300):
            handed = [draw.choice((0, 1, draw.randint(0, 20), draw.randint(0, FAR))) for at in range(draw.randint(1, 20))]
            wide = draw.choice(SIZES)
            self.spill(handed, wide, plain_spill(handed, wide))

    def test_of_keys(self):
        for keys in LISTS:
            for rooms in ROOMS[::3]:
                for wide in (1, 2, 5, 8):
                    rows = [plain_rows(own, wide) for own in plain_spread(keys, rooms)]
                    self.spill(counts(keys, rooms), wide, sum(len(own) - 1 for own in rows))


class Longest(unittest.TestCase):
    def longest(self, handed, wide, answer):
        ahead = list(handed)
        for again in (False, True):
            told = longest(handed, wide)
            self.assertEqual(told, answer, (handed, wide, again))
            self.assertEqual([type(told), type(told[0]), type(told[1])], [tuple, int, int])
        self.assertEqual(handed, ahead)

    def test_rooms_without_keys(self):
        for wide in SIZES:
            for rooms in (1, 2, 130):
                self.longest([0] * rooms, wide, (1, 0))

    def test_the_first_of_several(self):
        self.longest([1, 3, 4, 3], 2, (2, 1))
        self.longest([0, 2, 1, 2], 2, (1, 0))
        self.longest([1, 1, 2, 2], 1, (2, 2))
        self.longest([8, 9, 16, 10], 8, (2, 1))

    def test_first_and_last(self):
        self.longest([9, 1, 2], 2, (5, 0))
        self.longest([1, 2, 9], 2, (5, 2))
        self.longest([5], 2, (3, 0))

    def test_multiples_and_beside(self):
        for wide in SIZES:
            for times in (1, 2, 3, 50, FAR // 8):
                self.longest([0, times * wide], wide, (times, 0 if times == 1 else 1))
                self.longest([times * wide, times * wide + 1, times * wide + 1], wide, (times + 1, 1))

    def test_far_counts(self):
        self.longest([FAR - 1, FAR, FAR], 1, (FAR, 1))
        self.longest([FAR - 1, FAR, FAR], 8, (FAR // 8, 0))
        self.longest([0] * 129 + [FAR], 8, (FAR // 8, 129))

    def test_drawn(self):
        draw = Random(240)
        for turn in range(300):
            handed = [draw.choice((0, 1, draw.randint(0, 20), draw.randint(0, FAR))) for at in range(draw.randint(1, 20))]
            wide = draw.choice(SIZES)
            self.longest(handed, wide, plain_longest(handed, wide))


class AllLooks(unittest.TestCase):
    def looks(self, keys, rooms, wide):
        handed = list(keys)
        told = all_looks(handed, rooms, wide)
        again = all_looks(handed, rooms, wide)
        again.reverse()
        again.append(None)
        self.assertEqual(all_looks(handed, rooms, wide), told)
        self.assertEqual(handed, keys)
        self.assertIs(type(told), list)
        for pair in told:
            self.assertEqual([type(pair), type(pair[0]), type(pair[1])], [tuple, int, int])
        return told

    def test_no_keys(self):
        for rooms in ROOMS:
            self.assertEqual(self.looks([], rooms, 2), [])

    def test_examples(self):
        self.assertEqual(self.looks([5, 1, 3], 1, 1), [(1, 1), (3, 2), (5, 3)])
        self.assertEqual(self.looks([5, 1, 3], 1, 2), [(1, 1), (3, 1), (5, 2)])
        self.assertEqual(self.looks([5, 4, 1, 3], 2, 1), [(1, 1), (3, 2), (4, 1), (5, 3)])

    def test_many_keys_of_one_room(self):
        keys = [128 * at + 5 for at in range(120)]
        for rooms in (1, 2, 33, 128):
            for wide in SIZES:
                answer = [(key, at // wide + 1) for at, key in enumerate(keys)]
                self.assertEqual(self.looks(keys, rooms, wide), answer)

    def test_each_key_in_its_rooms_rows(self):
        for keys in LISTS:
            for rooms in ROOMS[::2]:
                for wide in (1, 2, 3, 8):
                    answer = []
                    for own in plain_spread(keys, rooms):
                        for at, row in enumerate(plain_rows(own, wide), 1):
                            answer += [(key, at) for key in row]
                    self.assertEqual(self.looks(keys, rooms, wide), sorted(answer))

    def test_none_is_more_than_longest_tells(self):
        for keys in LISTS:
            for rooms in ROOMS[::2]:
                for wide in SIZES:
                    most = max([1] + [looks for key, looks in all_looks(keys, rooms, wide)])
                    self.assertEqual(most, longest(counts(keys, rooms), wide)[0])

    def test_by_rooms_they_come_to_the_sum(self):
        for keys in LISTS:
            for rooms in ROOMS[::2]:
                for wide in SIZES:
                    told = dict(all_looks(keys, rooms, wide))
                    for own in spread(keys, rooms):
                        whole = sum(at * len(row) for at, row in enumerate(rows_of(own, wide), 1))
                        self.assertEqual(sum(told[key] for key in own), whole)


if __name__ == "__main__":
    unittest.main()
