"""Tests of books of splits [3, 51, 52, 53, 55]."""

import unittest
from copy import deepcopy
from itertools import combinations, product
from random import Random

from tailrooms.books import book_of, counts_by, is_book, least_rooms, spills_by
from tailrooms.spread import counts
from plain import plain_book, plain_spill, plain_spread
from things import END, FAR, drawn_book, drawn_keys, edge_keys, some_keys, whatever

SIZES = range(1, 9)
ROOMS = [1, 2, 3, 4, 5, 8, 9, 31, 64, 100, 129, 130]


def some_books(seed):
    """Pairs (count, book) of keys and by chance, short and long."""
    draw = Random(seed)
    told = [(0, []), (1, []), (120, []), (0, plain_book([], 130)), (3, [(0, 1, 1, 2)]), (3, [(0, 1, 3, 0)])]
    for rooms in ROOMS:
        for many in (1, 9, 60, 120):
            told.append((many, plain_book(some_keys(many, draw), rooms)))
            told.append((many, drawn_book(many, rooms, draw)))
    return told


def plain_counts(count, book, rooms):
    """The rooms' counts, kept in a dict."""
    had = {0: count}
    for room, new, stays, goes in book:
        if new < rooms:
            had.update({room: stays, new: goes})
    return [had[room] for room in range(rooms)]


def plain_spills(count, book, wide):
    """The spill by each number of rooms, from 1 on, each of them reckoned anew from all rooms."""
    return [plain_spill(plain_counts(count, book, rooms), wide) for rooms in range(1, len(book) + 2)]


class BookOf(unittest.TestCase):
    def book(self, keys, rooms):
        handed = list(keys)
        told = book_of(handed, rooms)
        self.assertEqual(told, plain_book(keys, rooms), (keys, rooms))
        self.assertIs(type(told), list)
        for row in told:
            self.assertEqual([type(part) for part in (row,) + row], [tuple] + [int] * 4)
        book_of(handed, rooms).clear()
        self.assertEqual(handed, keys)
        self.assertEqual(book_of(handed, rooms), told)
        handed.clear()
        self.assertEqual(told, plain_book(keys, rooms))
        return told

    def test_one_room(self):
        for keys in ([], [5], list(range(120)), edge_keys()[:120]):
            self.assertEqual(self.book(keys, 1), [])

    def test_no_keys(self):
        self.assertEqual(self.book([], 2), [(0, 1, 0, 0)])
        self.assertEqual(self.book([], 4), [(0, 1, 0, 0), (0, 2, 0, 0), (1, 3, 0, 0)])
        self.assertEqual([row[2:] for row in self.book([], 130)], [(0, 0)] * 129)

    def test_examples(self):
        self.assertEqual(self.book([3, 0, 1, 2], 2), [(0, 1, 2, 2)])
        self.assertEqual(self.book([3, 0, 1, 2], 4), [(0, 1, 2, 2), (0, 2, 1, 1), (1, 3, 1, 1)])
        self.assertEqual(self.book([1, 5, 9, 8], 5), [(0, 1, 1, 3), (0, 2, 1, 0), (1, 3, 3, 0), (0, 4, 1, 0)])
        self.assertEqual(self.book([END - 1], 4), [(0, 1, 0, 1), (0, 2, 0, 0), (1, 3, 0, 1)])

    def test_drawn(self):
        draw = Random(51)
        for rooms in ROOMS:
            for many in (1, 2, 30, 120):
                keys = some_keys(many, draw)
                book = self.book(keys, rooms)
                self.assertEqual(len(book), rooms - 1)
                self.assertEqual(self.book(keys[::-1], rooms), book)
                self.assertEqual(book_of(keys, 130)[:rooms - 1], book)
                self.assertIs(is_book(many, book), True)


class IsBook(unittest.TestCase):
    def told(self, count, thing, answer):
        ahead = repr(thing)
        for again in (False, True):
            self.assertIs(is_book(count, thing), answer, (count, thing))
        self.assertEqual(repr(thing), ahead)

    def test_books(self):
        for count, book in some_books(52):
            self.told(count, book, True)

    def test_another_count(self):
        for count, book in some_books(53):
            for other in {0, count - 1, count + 1, 120} - {count}:
                if 0 <= other <= 120:
                    self.told(other, book, book == [])

    def test_whatever(self):
        things = [thing for thing in whatever() if thing != []]
        for count in (0, 1, 120):
            self.told(count, [], True)
            for thing in things + [0, 1, -1, 5, END, FAR, "abc", "[]", "()"]:
                self.told(count, thing, False)
                self.told(count, [thing], False)
                self.told(count, [(0, 1, count, thing)] if type(thing) is not int else [(0, 1, count + 1, thing)], False)

    def test_tuples_for_the_list(self):
        for count, book in some_books(54):
            self.told(count, tuple(book), False)
            self.told(count, [book], False)
            self.told(count, {at: row for at, row in enumerate(book)}, False)

    def test_lists_for_tuples(self):
        for count, book in some_books(55):
            for at in sorted({0, len(book) // 2, len(book) - 1}):
                if 0 <= at < len(book):
                    self.told(count, book[:at] + [list(book[at])] + book[at + 1:], False)
                    self.told(count, book[:at] + [set(book[at])] + book[at + 1:], False)

    def test_one_number_changed(self):
        draw = Random(56)
        for count, book in some_books(57):
            for at in draw.sample(range(len(book)), min(3, len(book))):
                for place in range(4):
                    for thing in (-1, book[at][place] + 1, book[at][place] - 1, 121, END, FAR, -FAR, None, "1", [1], (1,)):
                        row = book[at][:place] + (thing,) + book[at][place + 1:]
                        if row != book[at]:
                            self.told(count, book[:at] + [row] + book[at + 1:], False)

    def test_truths_for_numbers(self):
        for count, book in some_books(58):
            for at, row in enumerate(book[:12]):
                for place in range(4):
                    if row[place] in (0, 1):
                        changed = row[:place] + (bool(row[place]),) + row[place + 1:]
                        self.told(count, book[:at] + [changed] + book[at + 1:], False)
        self.told(1, [(0, 1, 1, 0)], True)
        self.told(1, [(False, 1, 1, 0)], False)
        self.told(1, [(0, True, 1, 0)], False)
        self.told(1, [(0, 1, True, 0)], False)
        self.told(1, [(0, 1, 1, False)], False)

    def test_numbers_below_0(self):
        self.told(3, [(0, 1, -1, 4)], False)
        self.told(3, [(0, 1, 4, -1)], False)
        self.told(0, [(0, 1, -1, 1)], False)
        self.told(0, [(0, 1, 0, 0), (0, 2, 1, -1)], False)

    def test_keys_kept_or_lost(self):
        self.told(3, [(0, 1, 1, 2), (0, 2, 1, 0)], True)
        self.told(3, [(0, 1, 1, 2), (0, 2, 2, 0)], False)
        self.told(3, [(0, 1, 1, 2), (0, 2, 0, 1), (1, 3, 1, 1)], True)
        self.told(3, [(0, 1, 1, 2), (0, 2, 0, 1), (1, 3, 1, 0)], False)
        self.told(3, [(0, 1, 1, 2), (0, 2, 0, 1), (1, 3, 1, 2)], False)

    def test_wrong_rooms(self):
        self.told(3, [(1, 0, 1, 2)], False)
        self.told(3, [(0, 2, 1, 2)], False)
        self.told(3, [(0, 1, 1, 2), (1, 2, 1, 1)], False)
        self.told(0, [(0, 1, 0, 0), (0, 2, 0, 0), (0, 3, 0, 0)], False)
        self.told(0, [(0, 1, 0, 0), (0, 2, 0, 0), (1, 3, 0, 0)], True)
        self.told(0, [(0, 1, 0, 0), (0, 2, 0, 0), (-1, 3, 0, 0)], False)

    def test_lengths_of_tuples(self):
        for row in ((), (0,), (0, 1), (0, 1, 3), (0, 1, 3, 0, 0), (0, 1, 1, 2, None), ((0, 1), 1, 2)):
            self.told(3, [row], False)

    def test_too_long(self):
        for many in (0, 50, 120):
            book = plain_book(list(range(many)), 130)
            self.assertEqual(len(book), 129)
            self.told(many, book, True)
            room = [key for key in range(many) if plain_spread([key], 130)[2] == [key]]
            further = book + [(2, 130, len(room), 0)]
            self.told(many, further, False)
            self.told(many, further * 2, False)

    def test_one_left_out_or_two_exchanged(self):
        for count, book in some_books(59):
            for at in range(min(10, len(book) - 1)):
                self.told(count, book[:at] + book[at + 1:], False)
                self.told(count, book[:at] + [book[at + 1], book[at]] + book[at + 2:], False)
                self.told(count, book[:at] + [book[at]] + book[at:], False)
            self.told(count, book[:-1], True)

    def test_just_where_there_are_such_keys(self):
        # The last two bits tell all of it here, so four keys of each room are enough to find each book.
        for count in range(4):
            books = set()
            for keys in combinations(range(16), count):
                books.add(tuple(plain_book(list(keys), 4)))
            numbers = list(product(range(-1, count + 2), repeat=2))
            seen = 0
            for first, second, third in product(numbers, repeat=3):
                book = [(0, 1) + first, (0, 2) + second, (1, 3) + third]
                self.assertIs(is_book(count, book), tuple(book) in books, (count, book))
                seen += is_book(count, book)
            self.assertEqual(seen, len(books))


class CountsBy(unittest.TestCase):
    def told(self, count, book, rooms, answer):
        ahead = deepcopy(book)
        for again in (False, True):
            told = counts_by(count, book, rooms)
            self.assertEqual(told, answer, (count, book, rooms))
            self.assertEqual([type(told)] + [type(many) for many in told], [list] + [int] * rooms)
            told.clear()
        self.assertEqual(book, ahead)

    def test_one_room(self):
        for count, book in some_books(530):
            self.told(count, book, 1, [count])

    def test_examples(self):
        book = [(0, 1, 1, 2), (0, 2, 0, 1), (1, 3, 2, 0)]
        self.told(3, book, 2, [1, 2])
        self.told(3, book, 3, [0, 2, 1])
        self.told(3, book, 4, [0, 2, 1, 0])

    def test_books(self):
        for count, book in some_books(531):
            for rooms in ROOMS:
                if rooms <= len(book) + 1:
                    self.told(count, book, rooms, plain_counts(count, book, rooms))

    def test_against_counts(self):
        draw = Random(532)
        for many in (0, 1, 40, 120):
            keys = some_keys(many, draw)
            book = book_of(keys, 130)
            for rooms in range(1, 131):
                self.told(many, book, rooms, counts(keys, rooms))
                self.told(many, book, rooms, [len(own) for own in plain_spread(keys, rooms)])


class SpillsBy(unittest.TestCase):
    def told(self, count, book, wide, *answer):
        ahead = deepcopy(book)
        told = spills_by(count, book, wide)
        self.assertEqual([type(told)] + [type(row) for row in told], [list] + [tuple] * len(told))
        for row in told:
            self.assertEqual([type(number) for number in row], [int] * 3)
        by_rooms = []
        for first, behind, spill in told:
            self.assertEqual(first, len(by_rooms) + 1)
            self.assertGreater(behind, first)
            by_rooms += [spill] * (behind - first)
        self.assertEqual(by_rooms, plain_spills(count, book, wide))
        for row, further in zip(told, told[1:]):
            self.assertEqual(row[1], further[0])
            self.assertNotEqual(row[2], further[2])
        if answer:
            self.assertEqual(told, answer[0])
        spills_by(count, book, wide).clear()
        self.assertEqual(spills_by(count, book, wide), told)
        self.assertEqual(book, ahead)

    def test_an_empty_book(self):
        self.told(0, [], 3, [(1, 2, 0)])
        self.told(3, [], 3, [(1, 2, 0)])
        self.told(4, [], 3, [(1, 2, 1)])
        self.told(120, [], 1, [(1, 2, 119)])

    def test_examples(self):
        self.told(3, [(0, 1, 3, 0)], 1, [(1, 3, 2)])
        self.told(3, [(0, 1, 1, 2)], 1, [(1, 2, 2), (2, 3, 1)])
        self.told(3, [(0, 1, 1, 2), (0, 2, 1, 0), (1, 3, 1, 1)], 1, [(1, 2, 2), (2, 4, 1), (4, 5, 0)])
        self.told(0, [(0, 1, 0, 0), (0, 2, 0, 0), (1, 3, 0, 0)], 2, [(1, 5, 0)])

    def test_books(self):
        for count, book in some_books(533):
            for wide in (1, 2, 3, 8):
                self.told(count, book, wide)


class LeastRooms(unittest.TestCase):
    def told(self, count, book, wide, spill, answer):
        ahead = deepcopy(book)
        for again in (False, True):
            told = least_rooms(count, book, wide, spill)
            self.assertEqual(told, answer, (count, book, wide, spill))
            self.assertIs(type(told), type(answer))
        self.assertEqual(book, ahead)

    def test_an_empty_book(self):
        self.told(0, [], 1, 0, 1)
        self.told(1, [], 1, 0, 1)
        self.told(2, [], 1, 0, None)
        self.told(2, [], 1, 1, 1)
        self.told(120, [], 1, 118, None)
        self.told(120, [], 1, 119, 1)
        self.told(120, [], 1, 10 ** 9, 1)

    def test_examples(self):
        book = [(0, 1, 1, 2), (0, 2, 1, 0), (1, 3, 1, 1)]
        for spill, rooms in ((0, 4), (1, 2), (2, 1), (3, 1), (10 ** 9, 1)):
            self.told(3, book, 1, spill, rooms)
        self.told(3, book[:2], 1, 0, None)
        self.told(3, book, 2, 0, 2)
        self.told(3, book, 3, 0, 1)

    def test_books(self):
        for count, book in some_books(55):
            for wide in (1, 2, 8):
                spills = plain_spills(count, book, wide)
                near = {spill + more for spill in (spills[0], min(spills), spills[-1]) for more in (-1, 0, 1)}
                for spill in sorted(near | {0, 1, 10 ** 9}):
                    if spill >= 0:
                        fits = [rooms for rooms, here in enumerate(spills, 1) if here <= spill]
                        self.told(count, book, wide, spill, fits[0] if fits else None)

    def test_of_keys(self):
        keys = sorted(set(drawn_keys(200)))[:120]
        book = book_of(keys, 130)
        for wide in SIZES:
            for spill in (0, 5, 20, 60, 119):
                fits = [many for many in range(1, 131) if plain_spill(counts(keys, many), wide) <= spill]
                self.told(120, book, wide, spill, fits[0] if fits else None)


if __name__ == "__main__":
    unittest.main()
