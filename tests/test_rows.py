"""Tests of rows and looks [21, 22]."""

import unittest
from copy import deepcopy
from itertools import combinations, product
from random import Random

from tailrooms.rows import looked, rows_for, rows_of
from plain import plain_look, plain_rows, plain_rows_for
from things import END, drawn_keys, edge_keys

SIZES = range(1, 9)


class RowsOf(unittest.TestCase):
    def rows(self, keys, wide):
        """The rows, once they were seen to be right, new and the asker's own, and the keys as they were."""
        handed = list(keys)
        told = rows_of(handed, wide)
        self.assertEqual(told, plain_rows(keys, wide), (keys, wide))
        self.assertEqual(handed, list(keys))
        self.assertEqual([type(row) for row in [told] + told], [list] * (len(told) + 1))
        again = rows_of(handed, wide)
        self.assertEqual(again, told)
        for row in again:
            row.append(0)
        again.append([1])
        self.assertEqual(handed, list(keys))
        self.assertEqual(rows_of(handed, wide), told)
        return told

    def test_no_keys(self):
        for wide in SIZES:
            self.assertEqual(self.rows([], wide), [[]])

    def test_examples(self):
        self.assertEqual(self.rows([5], 1), [[5]])
        self.assertEqual(self.rows([5, 3], 1), [[3], [5]])
        self.assertEqual(self.rows([9, 2, 7], 2), [[2, 7], [9]])
        self.assertEqual(self.rows([9, 2, 7, 0], 2), [[0, 2], [7, 9]])
        self.assertEqual(self.rows([9, 2, 7, 0], 3), [[0, 2, 7], [9]])
        self.assertEqual(self.rows([9, 2, 7, 0], 8), [[0, 2, 7, 9]])
        self.assertEqual(self.rows([END - 1, 10, 9], 2), [[9, 10], [END - 1]])

    def test_just_wide_keys_and_beside(self):
        for wide in SIZES:
            for times in range(1, 5):
                for many in (times * wide - 1, times * wide, times * wide + 1):
                    keys = [7 * at for at in range(many)]
                    told = self.rows(keys, wide)
                    self.assertEqual(len(told), max(1, times + (many > times * wide) - (many <= (times - 1) * wide)))
                    self.assertEqual([key for row in told for key in row], keys)

    def test_whatever_order(self):
        draw = Random(21)
        for wide in SIZES:
            for many in list(range(20)) + [119, 120]:
                keys = sorted(set(drawn_keys(200) + edge_keys()))[:many]
                answer = self.rows(keys, wide)
                self.assertEqual(self.rows(keys[::-1], wide), answer)
                draw.shuffle(keys)
                self.assertEqual(self.rows(keys, wide), answer)

    def test_drawn(self):
        draw = Random(22)
        for turn in range(300):
            keys = draw.sample(edge_keys() + list(range(200, 260)), draw.randint(0, 40))
            self.rows(keys, draw.choice(SIZES))


class RowsFor(unittest.TestCase):
    def rows(self, many, wide, answer):
        for again in (False, True):
            told = rows_for(many, wide)
            self.assertEqual(told, answer, (many, wide, again))
            self.assertIs(type(told), int)

    def test_none(self):
        for wide in SIZES:
            self.rows(0, wide, 1)

    def test_multiples_and_beside(self):
        for wide in SIZES:
            for times in list(range(1, 40)) + [10 ** 9, 11 * 10 ** 9, END]:
                self.rows(times * wide, wide, times)
                self.rows(times * wide + 1, wide, times + 1)
                self.rows(times * wide - 1, wide, max(1, times - (wide == 1)))

    def test_against_trying(self):
        for wide in SIZES:
            for many in list(range(130)) + [10 ** 9 - 1, 10 ** 9, 10 ** 9 + 1]:
                self.rows(many, wide, plain_rows_for(many, wide))

    def test_against_rows_of(self):
        for wide in SIZES:
            for many in range(121):
                self.rows(many, wide, len(rows_of(list(range(many)), wide)))


class Looked(unittest.TestCase):
    def look(self, rows, key, found, looks):
        handed = deepcopy(rows)
        for again in (False, True):
            told = looked(handed, key)
            self.assertEqual(told, (found, looks), (rows, key, again))
            self.assertEqual([type(told), type(told[0]), type(told[1])], [tuple, bool, int])
        self.assertEqual(handed, rows)

    def test_no_rows(self):
        for key in edge_keys():
            self.look([], key, False, 0)

    def test_rows_without_keys_alone(self):
        for many in range(1, 6):
            self.look([[]] * many, 5, False, many)
            self.look([[]] * many, 0, False, many)

    def test_one_row(self):
        self.look([[3, 5]], 2, False, 1)
        self.look([[3, 5]], 3, True, 1)
        self.look([[3, 5]], 4, False, 1)
        self.look([[3, 5]], 5, True, 1)
        self.look([[3, 5]], 6, False, 1)

    def test_several_rows(self):
        rows = [[3, 5], [7, 9], [11]]
        for key, found, looks in (
            (0, False, 1), (3, True, 1), (4, False, 1), (5, True, 1), (6, False, 2), (7, True, 2), (8, False, 2),
            (9, True, 2), (10, False, 3), (11, True, 3), (12, False, 3), (END - 1, False, 3),
        ):
            self.look(rows, key, found, looks)

    def test_rows_without_keys_first_amid_and_last(self):
        self.look([[], [3, 5]], 3, True, 2)
        self.look([[], [3, 5]], 0, False, 2)
        self.look([[3], [], [5]], 3, True, 1)
        self.look([[3], [], [5]], 4, False, 3)
        self.look([[3], [], [5]], 5, True, 3)
        self.look([[3], [], [5]], 6, False, 3)
        self.look([[3], []], 3, True, 1)
        self.look([[3], []], 4, False, 2)
        self.look([[], [], [3], [], [], [8], []], 8, True, 6)
        self.look([[], [], [3], [], [], [8], []], 9, False, 7)

    def test_rows_that_do_not_rise_from_one_to_the_next(self):
        # The look ends at the first row that could have the key, though a further one has it.
        self.look([[3, 9], [5]], 5, False, 1)
        self.look([[7], [5]], 5, False, 1)
        self.look([[5], [5]], 5, True, 1)
        self.look([[1, 2], [1, 2, 3], [3]], 3, True, 2)
        self.look([[8], [1], [9]], 9, True, 3)
        self.look([[8], [1], [9]], 1, False, 1)
        self.look([[4], [2], [3]], 4, True, 1)

    def test_the_last_key_of_a_row(self):
        for wide in SIZES:
            rows = rows_of(list(range(0, 100, 5)), wide)
            for at, row in enumerate(rows):
                self.look(rows, row[-1], True, at + 1)
                self.look(rows, row[-1] + 1, False, min(at + 2, len(rows)))

    def test_each_key_of_a_row_and_between(self):
        keys = sorted(set(edge_keys()))[:120]
        for wide in SIZES:
            rows = rows_of(keys, wide)
            for at, row in enumerate(rows):
                for key in row:
                    self.look(rows, key, True, at + 1)

    def test_all_small_rows(self):
        some = [list(keys) for many in range(3) for keys in combinations(range(0, 8, 2), many)]
        for many in range(4):
            for rows in product(some, repeat=many):
                for key in range(8):
                    self.look(list(rows), key, *plain_look(list(rows), key))

    def test_drawn_rows(self):
        draw = Random(220)
        for turn in range(400):
            rows = [sorted(draw.sample(range(30), draw.randint(0, 6))) for at in range(draw.randint(0, 12))]
            for key in range(31):
                self.look(rows, key, *plain_look(rows, key))


if __name__ == "__main__":
    unittest.main()
