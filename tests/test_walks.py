"""Tests of walks [3, 5, 10, 72 to 74]."""

import unittest
from copy import deepcopy
from random import Random

from tailrooms.errors import NoMark
from tailrooms.marks import stretch_of
from tailrooms.table import Table
from tailrooms.walks import ahead, is_walk, page, walked
from filling import filled
from plain import plain_spread, plain_turned, ways
from refusing import RefusalTest
from things import END, FAR, NO_MARKS, WORDS, edge_keys, some_entries, whatever

SIZES = range(1, 9)
HALF, QUARTER = END // 2, END // 4


def some_tables(seed):
    """Tables of few keys and of many, some with all keys in few rooms."""
    draw = Random(seed)
    told = [Table(1, 1), Table(8, 8), filled(2, 1, [(0, "a")]), filled(2, 1, [(END - 1, "a")])]
    for many in (1, 2, 3, 9, 30, 63, 64):
        for fill in (1, 2, 5, 8):
            told.append(filled(draw.choice(SIZES), fill, some_entries(many, draw)))
    told += [filled(2, fill, [(64 * at, "k") for at in range(40)]) for fill in (1, 3, 8)]
    return told


def by_turned(entries):
    return sorted(entries, key=lambda entry: plain_turned(entry[0]))


def pages_of(table):
    """The pages (mark, entries, onward) of a walk through the table as it is."""
    told, mark = [], 0
    while mark != END:
        entries, onward = page(table, mark)
        told.append((mark, entries, onward))
        mark = onward
    return told


def change(table, draw, keys):
    """Puts or drops one of the keys."""
    key = draw.choice(keys)
    if key in dict(table.entries()):
        table.drop(key)
    elif table.count() < 64:
        table.put(key, draw.choice(WORDS))


class Page(RefusalTest):
    def page(self, table, mark, *answer):
        entries = table.entries()
        told = page(table, mark)
        rooms = table.rooms()
        room = ways(plain_turned(mark), rooms)[-1]
        own = plain_spread([key for key, thing in entries], rooms)[room]
        things = dict(entries)
        asked = by_turned([(key, things[key]) for key in own if plain_turned(key) >= mark])
        self.assertEqual(told, (asked, stretch_of(room, rooms)[1]), (entries, mark))
        self.assertEqual([type(part) for part in (told,) + told], [tuple, list, int])
        self.assertEqual([type(entry) for entry in told[0]], [tuple] * len(asked))
        page(table, mark)[0].append((7, "spoilt"))
        page(table, mark)[0].clear()
        self.assertEqual(page(table, mark), told)
        self.assertEqual((table.entries(), table.rooms()), (entries, rooms))
        if answer:
            self.assertEqual(told, answer[0])
        return told

    def test_without_entries(self):
        for table in (Table(1, 1), Table(8, 8)):
            for mark in (0, 1, HALF, END - 1):
                self.page(table, mark, ([], END))

    def test_examples(self):
        table = filled(2, 2, [(0, "a"), (1, "b"), (2, "c"), (3, "d"), (4, "e")])
        self.page(table, 0, ([(0, "a"), (4, "e")], QUARTER))
        self.page(table, 1, ([(4, "e")], QUARTER))
        self.page(table, QUARTER // 2, ([(4, "e")], QUARTER))
        self.page(table, QUARTER // 2 + 1, ([], QUARTER))
        self.page(table, QUARTER, ([(2, "c")], HALF))
        self.page(table, HALF, ([(1, "b"), (3, "d")], END))
        self.page(table, HALF + QUARTER, ([(3, "d")], END))
        self.page(table, END - 1, ([], END))

    def test_marks_of_each_room(self):
        for table in some_tables(72):
            rooms = table.rooms()
            for room in range(rooms):
                first, behind = stretch_of(room, rooms)
                for mark in (first, first + 1, (first + behind) // 2, behind - 1):
                    self.page(table, mark)
                whole = [key for row in table.room(room) for key, thing in row]
                self.assertEqual(sorted(key for key, thing in page(table, first)[0]), whole)

    def test_marks_at_keys(self):
        for table in some_tables(720)[::2]:
            for key, thing in table.entries():
                mark = plain_turned(key)
                self.assertEqual(self.page(table, mark)[0][0], (key, thing))
                if mark < END - 1:
                    self.assertNotIn((key, thing), self.page(table, mark + 1)[0])

    def test_rooms_without_keys(self):
        table = filled(2, 1, [(8 * at, "k") for at in range(8)])
        self.page(table, HALF, ([], HALF + END // 8))
        self.page(table, END - 1, ([], END))

    def test_the_number_of_rooms_then(self):
        table = filled(2, 1, [(1, "a")])
        self.page(table, 0, ([(1, "a")], END))
        table.put(3, "b")
        self.page(table, 0, ([], HALF))
        table.drop(1)
        self.page(table, 0, ([(3, "b")], END))

    def test_no_mark(self):
        for table in (Table(2, 2), filled(2, 2, [(key, "a") for key in range(9)])):
            entries = table.entries()
            for mark in NO_MARKS:
                seen = repr(mark)
                self.refused(NoMark, "mark", mark, page, table, mark)
                self.assertEqual((repr(mark), table.entries()), (seen, entries))


class Walked(RefusalTest):
    def test_all_entries_by_their_turned_keys(self):
        for table in some_tables(73):
            entries = table.entries()
            told = walked(table)
            self.assertEqual([type(told)] + [type(entry) for entry in told], [list] + [tuple] * len(entries))
            self.assertEqual(told, by_turned(entries))
            self.assertEqual(told, [entry for mark, own, onward in pages_of(table) for entry in own])
            walked(table).clear()
            self.assertEqual(walked(table), told)
            self.assertEqual(table.entries(), entries)

    def test_as_many_pages_as_rooms(self):
        for table in some_tables(730):
            self.assertEqual(len(pages_of(table)), table.rooms())


class Ahead(RefusalTest):
    def ahead(self, table, mark, answer):
        entries = table.entries()
        for again in (False, True):
            told = ahead(table, mark)
            self.assertEqual(told, answer, (entries, mark))
            self.assertIs(type(told), int)
        self.assertEqual(table.entries(), entries)

    def test_edges(self):
        for table in some_tables(731):
            self.ahead(table, 0, table.count())
            self.ahead(table, END, 0)

    def test_amid(self):
        draw = Random(732)
        for table in some_tables(733):
            turned_keys = [plain_turned(key) for key, thing in table.entries()]
            marks = {1, HALF - 1, HALF, END - 1, draw.randrange(END)}
            marks |= {mark + more for mark in turned_keys[:9] for more in (-1, 0, 1)}
            for mark in sorted(marks):
                if 0 <= mark <= END:
                    self.ahead(table, mark, len([other for other in turned_keys if other >= mark]))

    def test_what_a_walk_still_tells(self):
        for table in some_tables(734):
            pages = pages_of(table)
            for at, (mark, own, onward) in enumerate(pages):
                self.ahead(table, mark, sum(len(further) for first, further, behind in pages[at:]))

    def test_no_mark(self):
        for table in (Table(2, 2), filled(2, 2, [(key, "a") for key in range(9)])):
            for mark in NO_MARKS:
                if not (type(mark) is int and mark == END):
                    self.refused(NoMark, "mark", mark, ahead, table, mark)


class Walks(unittest.TestCase):
    def walk(self, table, between):
        """A walk with changes between its pages: each key that stands all the while is told just once."""
        stands = {key for key, thing in table.entries()}
        told, mark, seen = [], 0, 0
        while mark != END:
            here = table.entries()
            stands &= {key for key, thing in here}
            entries, onward = page(table, mark)
            self.assertGreater(onward, mark)
            self.assertEqual([entry for entry in entries if entry not in here], [])
            told += [key for key, thing in entries]
            between(table)
            mark = onward
            seen += 1
            self.assertLess(seen, 200)
        for key in stands:
            self.assertEqual(told.count(key), 1, key)
        return stands

    def test_puts_and_drops_between(self):
        draw = Random(10)
        for turn in range(120):
            keys = [key for key, thing in some_entries(draw.choice((5, 20, 60, 100)), draw)]
            table = filled(draw.choice(SIZES), draw.choice((1, 1, 2, 3, 8)), [])
            for key in keys[:draw.randint(0, 60)]:
                table.put(key, "a")
            many = draw.choice((1, 1, 2, 5, 20))
            self.walk(table, lambda table: [change(table, draw, keys) for at in range(draw.randint(0, many))])

    def test_a_table_that_grows(self):
        for fill in (1, 2, 8):
            table = filled(2, fill, [(key, "a") for key in range(8)])
            further = list(range(8, 64))
            stands = self.walk(table, lambda table: further and table.put(further.pop(), "b"))
            self.assertEqual(stands, set(range(8)))
            self.assertGreater(table.count(), 8)

    def test_a_table_that_shrinks(self):
        for fill in (1, 2, 8):
            table = filled(2, fill, [(key, "a") for key in range(64)])
            further = list(range(8, 64))
            stands = self.walk(table, lambda table: further and table.drop(further.pop()))
            self.assertTrue(stands >= set(range(8)))
            self.assertLess(table.count(), 64)

    def test_a_table_that_comes_to_one_room_and_back(self):
        table = filled(1, 1, [(5, "a")])
        keys = [key for key in edge_keys() if key != 5][:40]

        def turn(table):
            if table.count() > 1:
                for key in keys:
                    table.drop(key)
            else:
                for key in keys:
                    table.put(key, "b")

        for at in range(4):
            self.assertEqual(self.walk(table, turn) - set(keys), {5})

    def test_is_walk_of_pages_between_which_the_rooms_changed(self):
        # Keys that come and go again between the pages leave other rooms, and the same entries on each page.
        draw = Random(103)
        for turn in range(60):
            entries = some_entries(draw.randint(0, 20), draw)
            others = [key for key, thing in some_entries(80, draw) if key not in dict(entries)]
            table = filled(2, draw.choice((1, 2, 3)), entries)
            pages, mark = [], 0
            while mark != END:
                come = others[:draw.randint(0, 40)]
                for key in come:
                    table.put(key, "other")
                told, onward = page(table, mark)
                pages.append((mark, [entry for entry in told if entry[0] in dict(entries)], onward))
                for key in come:
                    table.drop(key)
                mark = onward
            self.assertIs(is_walk(entries, pages), True)


class IsWalk(unittest.TestCase):
    def told(self, entries, thing, answer):
        handed, seen = list(entries), repr(thing)
        for again in (False, True):
            self.assertIs(is_walk(handed, thing), answer, (entries, thing))
        self.assertEqual((handed, repr(thing)), (entries, seen))

    def test_pages_of_walks(self):
        draw = Random(74)
        for table in some_tables(740):
            entries = table.entries()
            pages = pages_of(table)
            self.told(entries, pages, True)
            self.told(entries[::-1], pages, True)
            self.told(draw.sample(entries, len(entries)), pages, True)
            self.told(entries, [(0, by_turned(entries), END)], True)

    def test_pages_of_any_marks(self):
        draw = Random(741)
        for turn in range(60):
            entries = some_entries(draw.randint(0, 30), draw)
            at_keys = [plain_turned(key) for key, thing in entries]
            inner = {draw.choice(at_keys + [1, HALF, END - 1]) + draw.choice((-1, 0, 1)) for at in range(6)}
            marks = [0] + sorted(mark for mark in inner if 0 < mark < END) + [END]
            pages = []
            for mark, onward in zip(marks, marks[1:]):
                own = [entry for entry in by_turned(entries) if mark <= plain_turned(entry[0]) < onward]
                pages.append((mark, own, onward))
            self.told(entries, pages, True)

    def test_other_entries(self):
        for table in some_tables(742):
            entries, pages = table.entries(), pages_of(table)
            if entries:
                self.told(entries[1:], pages, False)
                self.told(entries[:-1], pages, False)
                self.told(entries[1:] + [(entries[0][0], "another")], pages, False)
            further = next(key for key in range(100) if key not in dict(entries))
            self.told(entries + [(further, "a")], pages, False)

    def test_each_thing_that_comes_by_one_change(self):
        tables = [table for table in some_tables(743) if table.count() < 12]
        tables.append(filled(2, 2, [(0, "a"), (1, "b"), (2, "c"), (3, "d"), (4, "e")]))
        tables.append(filled(2, 1, [(0, "a"), (1, "b"), (2, "c")]))
        for table in tables:
            entries, pages = table.entries(), pages_of(table)
            changed = self.changed(pages)
            self.assertGreater(len(changed), 10)
            for thing in changed:
                self.told(entries, thing, False)
            self.told(entries, pages, True)

    def changed(self, pages):
        """All that comes of pages by one change, none of it a walk."""
        told = [tuple(pages), {at: own for at, own in enumerate(pages)}, [pages], (pages,), pages + [None]]
        told += [pages[:at] + pages[at + 1:] for at in range(len(pages))]
        told += [pages[:at] + [pages[at]] + pages[at:] for at in range(len(pages))]
        told += [pages[:at] + [pages[at + 1], pages[at]] + pages[at + 2:] for at in range(len(pages) - 1)]
        told += [pages + [(END, [], END)], pages + [(END, [], END + 1)], [(0, [], 0)] + pages]
        for at, (mark, own, onward) in enumerate(pages):
            rows = [list(pages[at]), (mark, own), (mark, own, onward, None), (), None, own, mark, "page"]
            rows += [(other, own, onward) for other in self.others(mark)]
            rows += [(mark, own, other) for other in self.others(onward)]
            rows += [(mark, other, onward) for other in self.changed_entries(own)]
            told += [pages[:at] + [row] + pages[at + 1:] for row in rows]
        return told

    def others(self, mark):
        told = [mark - 1, mark + 1, -mark - 1, END + 1, FAR, -FAR, None, str(mark), [mark], (mark,)]
        return told + [bool(mark)] * (mark in (0, 1)) + [0] * (mark != 0)

    def changed_entries(self, own):
        told = [tuple(own), {key: thing for key, thing in own}, None, "entries", 0, [own], own + [(7, "seven")]]
        told += [own + [None], own + [()], [[]] + own, own + [own]]
        for at, (key, thing) in enumerate(own):
            told += [own[:at] + own[at + 1:], own[:at] + [own[at]] + own[at:]]
            rows = [[key, thing], (key,), (key, thing, thing), (thing, key), (key, "another"), (key, None), key, thing]
            rows += [(key + 1, thing), (str(key), thing), (key, thing.upper()), (key, thing.encode()), (key, [thing])]
            rows += [(bool(key), thing)] * (key in (0, 1))
            told += [own[:at] + [row] + own[at + 1:] for row in rows]
        told += [own[:at] + [own[at + 1], own[at]] + own[at + 2:] for at in range(len(own) - 1)]
        return told

    def test_truths_for_numbers(self):
        entries = [(0, "a"), (1, "b")]
        self.told(entries, [(0, [(0, "a")], 1), (1, [(1, "b")], END)], True)
        self.told(entries, [(False, [(0, "a")], 1), (1, [(1, "b")], END)], False)
        self.told(entries, [(0, [(False, "a")], 1), (1, [(1, "b")], END)], False)
        self.told(entries, [(0, [(0, "a")], True), (1, [(1, "b")], END)], False)
        self.told(entries, [(0, [(0, "a")], 1), (True, [(1, "b")], END)], False)
        self.told(entries, [(0, [(0, "a")], 1), (1, [(True, "b")], END)], False)

    def test_whatever(self):
        things = whatever() + [0, 1, END, FAR, -FAR, "abc", "walk", [[]], [()], [(0,)], [(0, [])], [None, None]]
        for entries in ([], [(0, "a")], [(0, "a"), (5, "b")]):
            for thing in things + [(0, [], END), [0, [], END], [[0, [], END]], {0: ([], END)}, ((0, [], END),)]:
                self.told(entries, thing, False)
                self.told(entries, [thing], thing == (0, [], END) and entries == [])
                self.told(entries, [(0, thing, END)], thing == [] and entries == [])
                self.told(entries, [(thing, entries, END)], type(thing) is int and thing == 0)

    def test_no_entries(self):
        self.told([], [(0, [], END)], True)
        self.told([], [(0, [], 5), (5, [], END)], True)
        self.told([], [(0, [], 5), (6, [], END)], False)
        self.told([], [(0, [], 5), (4, [], END)], False)
        self.told([], [(0, [], 5)], False)
        self.told([], [(5, [], END)], False)
        self.told([], [(0, [], END + 1)], False)
        self.told([], [(0, [], END + 1), (END + 1, [], END)], False)
        self.told([], [(0, [], 5), (5, [], 5), (5, [], END)], False)
        self.told([], [(0, [], 0), (0, [], END)], False)
        self.told([], [(-1, [], END)], False)
        self.told([], [], False)

    def test_the_thing_is_looked_at_as_it_is(self):
        entries = [(3, "a"), (5, "b")]
        pages = [(0, by_turned(entries), END)]
        kept = deepcopy(pages)
        self.told(entries, pages, True)
        pages[0][1].pop()
        self.told(entries, pages, False)
        self.told(entries, kept, True)


if __name__ == "__main__":
    unittest.main()
