"""Tests of keys for books [3, 54]."""

import unittest
from copy import deepcopy
from random import Random

from tailrooms.books import book_of, is_book
from tailrooms.keysfor import keys_for
from plain import plain_book, ways
from things import END, drawn_book, parted_book, some_keys

ROOMS = [1, 2, 3, 4, 5, 7, 8, 9, 16, 17, 31, 63, 64, 65, 100, 127, 128, 129, 130]


def all_to_one_room(count, rooms, last):
    """The book by which all keys come to the last room, and stay there to the end."""
    return parted_book(count, rooms, lambda new, had: 0 if new in ways(last, rooms) else had)


class KeysFor(unittest.TestCase):
    def keys(self, count, book):
        ahead = deepcopy(book)
        self.assertIs(is_book(count, book), True)
        told = keys_for(count, book)
        self.assertEqual([type(told)] + [type(key) for key in told], [list] + [int] * count, (count, book))
        self.assertEqual(told, sorted(set(told)))
        self.assertEqual([key for key in told if not 0 <= key < END], [])
        self.assertEqual(plain_book(told, len(book) + 1), ahead)
        self.assertEqual(book_of(told, len(book) + 1), ahead)
        self.assertEqual(book, ahead)
        keys_for(count, book).clear()
        again = keys_for(count, book)
        self.assertEqual(again, told)
        again[:1] = [5, 5, None]
        self.assertEqual(keys_for(count, book), told)
        book.clear()
        self.assertEqual(plain_book(told, len(ahead) + 1), ahead)
        return told

    def test_no_keys(self):
        for rooms in ROOMS:
            self.assertEqual(self.keys(0, plain_book([], rooms)), [])

    def test_an_empty_book(self):
        for count in range(121):
            self.keys(count, [])

    def test_one_key(self):
        draw = Random(54)
        for rooms in ROOMS:
            for turn in range(10):
                self.keys(1, drawn_book(1, rooms, draw))

    def test_one_key_to_each_room(self):
        for rooms in ROOMS:
            for last in range(rooms):
                key = self.keys(1, plain_book([last], rooms))[0]
                self.assertEqual(plain_book([key], rooms), plain_book([last], rooms))

    def test_all_stay(self):
        for rooms in ROOMS:
            for count in (1, 2, 7, 119, 120):
                self.keys(count, parted_book(count, rooms, lambda new, had: had))

    def test_all_go(self):
        for rooms in ROOMS:
            for count in (1, 2, 7, 119, 120):
                self.keys(count, parted_book(count, rooms, lambda new, had: 0))

    def test_all_keys_of_one_room_to_the_end(self):
        for rooms in (2, 5, 64, 129, 130):
            for last in range(0, rooms, 1 if rooms < 10 else 9):
                book = all_to_one_room(120, rooms, last)
                keys = self.keys(120, book)
                self.assertEqual({ways(key, rooms)[-1] for key in keys}, {last})

    def test_halves(self):
        for rooms in ROOMS:
            for count in (1, 2, 63, 64, 120):
                self.keys(count, parted_book(count, rooms, lambda new, had: had // 2))
                self.keys(count, parted_book(count, rooms, lambda new, had: had - had // 2))

    def test_drawn_books(self):
        draw = Random(540)
        for rooms in ROOMS:
            for count in (2, 3, 10, 59, 119, 120):
                self.keys(count, drawn_book(count, rooms, draw))
                self.keys(count, parted_book(count, rooms, lambda new, had: draw.randint(0, had)))

    def test_books_of_keys(self):
        draw = Random(541)
        for rooms in ROOMS:
            for count in (1, 2, 30, 120):
                self.keys(count, plain_book(some_keys(count, draw), rooms))

    def test_each_small_book(self):
        for count in range(5):
            for first in range(count + 1):
                for second in range(first + 1):
                    for third in range(count - first + 1):
                        for fourth in range(second + 1):
                            self.keys(count, [
                                (0, 1, first, count - first), (0, 2, second, first - second),
                                (1, 3, third, count - first - third), (0, 4, fourth, second - fourth),
                            ])


if __name__ == "__main__":
    unittest.main()
