"""Tests of tables [3, 5, 6, 31 to 36]."""

import unittest
from copy import deepcopy
from random import Random

from tailrooms.errors import Full, Lacking, NoKey, NoRoom, NoSize, NoThing
from tailrooms.table import Table, rooms_for
from filling import filled
from plain import plain_rooms_for, plain_rows, plain_look, plain_spread, plain_table
from refusing import RefusalTest
from things import END, FAR, NO_KEYS, NO_SIZES, NO_THINGS, WORDS, drawn_keys, edge_keys, some_entries, whatever

SIZES = range(1, 9)


def told(table):
    """All that a table tells, in the form of plain_table."""
    keys = [key for key, thing in table.entries()]
    return {
        "count": table.count(), "rooms": table.rooms(), "entries": table.entries(),
        "room": [table.room(number) for number in range(table.rooms())],
        "spill": table.spill(), "longest": table.longest(),
        "find": {key: table.find(key) for key in keys}, "looks": {key: table.looks(key) for key in keys},
    }


class TableTest(RefusalTest):
    def same(self, table, things):
        """The table tells just what a table of the dict's entries is to tell."""
        answer = plain_table(things, table.wide, table.fill)
        self.assertEqual(told(table), answer)
        self.assertEqual([type(table.count()), type(table.rooms()), type(table.spill())], [int] * 3)
        self.assertEqual([type(table.longest()), type(table.entries())], [tuple, list])

    def put(self, table, things, key, thing):
        """Puts into both, and sees what is told of the split."""
        ahead = plain_rooms_for(len(things), table.fill)
        things[key] = thing
        rooms = plain_rooms_for(len(things), table.fill)
        got = table.put(key, thing)
        if rooms == ahead:
            self.assertIsNone(got)
            return got
        new = rooms - 1
        self.assertEqual(got, (int("0" + bin(new)[3:], 2), new, plain_spread(list(things), rooms)[new]))
        self.assertEqual([type(part) for part in got], [int, int, list])
        self.assertIs(type(got), tuple)
        return got

    def drop(self, table, things, key):
        """Drops from both, and sees what is told of the join."""
        ahead = plain_rooms_for(len(things), table.fill)
        last = plain_spread(list(things), ahead)[ahead - 1]
        del things[key]
        got = table.drop(key)
        if plain_rooms_for(len(things), table.fill) == ahead:
            self.assertIsNone(got)
            return got
        room = ahead - 1
        self.assertEqual(got, (room, int("0" + bin(room)[3:], 2), [other for other in last if other != key]))
        self.assertEqual([type(part) for part in got], [int, int, list])
        self.assertIs(type(got), tuple)
        return got


class RoomsFor(unittest.TestCase):
    def rooms(self, count, fill, answer):
        for again in (False, True):
            got = rooms_for(count, fill)
            self.assertEqual(got, answer, (count, fill, again))
            self.assertIs(type(got), int)

    def test_edges(self):
        for fill in SIZES:
            self.rooms(0, fill, 1)
            self.rooms(1, fill, 1)
            self.rooms(fill, fill, 1)
            self.rooms(fill + 1, fill, 2)
            self.rooms(2 * fill, fill, 2)
            self.rooms(2 * fill + 1, fill, 3)

    def test_far(self):
        for fill, rooms in ((1, 10 ** 9), (2, 5 * 10 ** 8), (3, 333333334), (7, 142857143), (8, 125000000)):
            self.rooms(10 ** 9, fill, rooms)

    def test_against_trying(self):
        for fill in SIZES:
            for count in range(600):
                self.rooms(count, fill, plain_rooms_for(count, fill))

    def test_one_key_more_is_at_most_one_room_more(self):
        for fill in SIZES:
            for count in list(range(200)) + [10 ** 9 - 3, 10 ** 9 - 2, 10 ** 9 - 1]:
                self.assertIn(rooms_for(count + 1, fill) - rooms_for(count, fill), (0, 1))


class Made(TableTest):
    def test_values(self):
        for wide in SIZES:
            for fill in SIZES:
                table = Table(wide, fill)
                self.assertEqual((table.wide, table.fill), (wide, fill))
                self.assertEqual([type(table.wide), type(table.fill)], [int, int])

    def test_without_entries(self):
        for wide in SIZES:
            for fill in SIZES:
                table = Table(wide, fill)
                self.same(table, {})
                self.assertEqual((table.count(), table.rooms(), table.entries(), table.room(0)), (0, 1, [], [[]]))
                self.assertEqual((table.spill(), table.longest(), table.looks(5)), (0, (1, 0), (False, 1)))

    def test_no_wide(self):
        for thing in NO_SIZES:
            for fill in (1, 8):
                self.refused(NoSize, "thing", thing, Table, thing, fill)

    def test_no_fill(self):
        for thing in NO_SIZES:
            for wide in (1, 8):
                self.refused(NoSize, "thing", thing, Table, wide, thing)

    def test_the_wide_is_refused_first(self):
        for thing in NO_SIZES:
            for other in NO_SIZES:
                self.refused(NoSize, "thing", thing, Table, thing, other)

    def test_what_is_refused_stays_as_it_was(self):
        for thing in NO_SIZES:
            if isinstance(thing, (list, dict, tuple)):
                ahead = deepcopy(thing)
                self.refused(NoSize, "thing", thing, Table, thing, thing)
                self.assertEqual(thing, ahead)

    def test_tables_of_their_own(self):
        one, other = Table(2, 2), Table(2, 2)
        one.put(5, "a")
        self.same(other, {})
        other.put(6, "b")
        self.same(one, {5: "a"})


class Put(TableTest):
    def test_puts_that_split_and_that_do_not(self):
        table = Table(2, 1)
        self.assertIsNone(table.put(0, "a"))
        self.assertEqual(table.put(1, "b"), (0, 1, [1]))
        self.assertEqual(table.put(3, "c"), (0, 2, []))
        self.assertEqual(table.put(7, "d"), (1, 3, [3, 7]))
        self.assertEqual(table.put(4, "e"), (0, 4, [4]))
        self.assertIsNone(table.put(4, "f"))
        self.assertEqual(table.entries(), [(0, "a"), (1, "b"), (3, "c"), (4, "f"), (7, "d")])

    def test_the_put_key_is_in_the_new_room_or_not(self):
        table = filled(1, 2, [(2, "a"), (5, "b")])
        self.assertEqual(table.twin().put(3, "c"), (0, 1, [3, 5]))
        self.assertEqual(table.twin().put(7, "c"), (0, 1, [5, 7]))
        self.assertEqual(table.twin().put(4, "c"), (0, 1, [5]))
        table = filled(1, 2, [(2, "a"), (4, "b")])
        self.assertEqual(table.twin().put(6, "c"), (0, 1, []))
        self.assertEqual(table.twin().put(END - 1, "c"), (0, 1, [END - 1]))

    def test_a_standing_key(self):
        for fill in SIZES:
            table = Table(2, fill)
            things = {}
            for key in range(20):
                self.put(table, things, key, "a")
                self.assertIsNone(self.put(table, things, key, "a"))
                self.assertIsNone(self.put(table, things, key, "b"))
                self.same(table, things)

    def test_no_key(self):
        table = filled(2, 3, [(5, "a"), (1, "b"), (0, "c")])
        ahead = told(table)
        for key in NO_KEYS:
            for thing in ["a", "zz", "A", "", None, 5, []]:
                self.refused(NoKey, "key", key, table.put, key, thing)
        self.assertEqual(told(table), ahead)

    def test_no_thing(self):
        table = filled(2, 3, [(5, "a"), (1, "b"), (0, "c")])
        ahead = told(table)
        for thing in NO_THINGS:
            for key in (0, 5, 6, END - 1):
                self.refused(NoThing, "thing", thing, table.put, key, thing)
        self.assertEqual(told(table), ahead)
        self.assertEqual(table.put(6, "abcdefgh"), (0, 1, [1, 5]))

    def test_full(self):
        for wide, fill in ((1, 1), (8, 8), (3, 5)):
            keys = [3 * at for at in range(64)]
            table = filled(wide, fill, [(key, "a") for key in keys])
            things = {key: "a" for key in keys}
            self.same(table, things)
            for key in (1, 2, 191, 190, 192, END - 1):
                with self.assertRaises(Full) as taken:
                    table.put(key, "b")
                self.assertEqual(taken.exception.many, 64)
                self.assertIs(type(taken.exception.many), int)
            self.same(table, things)

    def test_no_key_and_no_thing_ahead_of_full(self):
        table = filled(1, 1, [(key, "a") for key in range(64)])
        ahead = told(table)
        for key in NO_KEYS:
            self.refused(NoKey, "key", key, table.put, key, "a")
            self.refused(NoKey, "key", key, table.put, key, 5)
        for thing in NO_THINGS:
            self.refused(NoThing, "thing", thing, table.put, 64, thing)
            self.refused(NoThing, "thing", thing, table.put, 63, thing)
        self.assertEqual(told(table), ahead)

    def test_a_standing_key_laid_anew_where_it_is_full(self):
        table = filled(2, 3, [(key, "a") for key in range(64)])
        things = {key: "a" for key in range(64)}
        for key in (0, 63, 31):
            self.assertIsNone(self.put(table, things, key, "zz"))
        self.same(table, things)
        self.drop(table, things, 31)
        self.put(table, things, 64, "b")
        self.same(table, things)
        with self.assertRaises(Full):
            table.put(31, "a")

    def test_up_to_full_by_every_fill(self):
        for fill in SIZES:
            table, things = Table(3, fill), {}
            for key in sorted(set(drawn_keys(100)))[:64]:
                self.put(table, things, key, "a")
            self.same(table, things)
            with self.assertRaises(Full):
                table.put(END - 1, "a")


class Drop(TableTest):
    def test_drops_that_join_and_that_do_not(self):
        table = filled(2, 2, [(0, "a"), (1, "b"), (3, "c"), (6, "d"), (7, "e")])
        self.assertEqual(table.rooms(), 3)
        self.assertEqual(table.twin().drop(6), (2, 0, []))
        self.assertEqual(table.twin().drop(0), (2, 0, [6]))
        self.assertEqual(table.drop(7), (2, 0, [6]))
        self.assertIsNone(table.drop(3))
        self.assertEqual(table.drop(1), (1, 0, []))
        self.assertIsNone(table.drop(0))
        self.assertIsNone(table.drop(6))
        self.same(table, {})

    def test_the_dropped_key_is_not_among_the_keys(self):
        table = filled(2, 1, [(1, "a"), (3, "b")])
        self.assertEqual(table.twin().drop(1), (1, 0, [3]))
        self.assertEqual(table.twin().drop(3), (1, 0, [1]))

    def test_down_to_no_keys_and_on_again(self):
        for wide, fill in ((1, 1), (2, 3), (8, 2), (4, 8)):
            draw = Random(33)
            table, things = Table(wide, fill), {}
            for turn in range(3):
                for key, thing in some_entries(20, draw):
                    self.put(table, things, key, thing)
                self.same(table, things)
                for key in draw.sample(sorted(things), len(things)):
                    self.drop(table, things, key)
                self.same(table, {})

    def test_no_key_ahead_of_lacking(self):
        for table in (Table(2, 2), filled(2, 2, [(5, "a"), (1, "b"), (0, "c")])):
            ahead = told(table)
            for key in NO_KEYS:
                self.refused(NoKey, "key", key, table.drop, key)
            self.assertEqual(told(table), ahead)

    def test_lacking(self):
        table = filled(2, 2, [(5, "a"), (1, "b"), (0, "c")])
        ahead = told(table)
        for key in (2, 4, 6, 64, END - 1):
            self.refused(Lacking, "key", key, table.drop, key)
        self.assertEqual(told(table), ahead)
        table.drop(5)
        self.refused(Lacking, "key", 5, table.drop, 5)

    def test_once_it_stands_it_is_taken(self):
        table = Table(2, 2)
        self.refused(Lacking, "key", 9, table.drop, 9)
        table.put(9, "a")
        self.assertIsNone(table.drop(9))
        self.refused(Lacking, "key", 9, table.drop, 9)


class Find(TableTest):
    def test_keys_that_stand(self):
        table = filled(2, 8, [(1, "a"), (3, "b"), (5, "c"), (7, "d"), (9, "e")])
        answers = [("a", 1), ("b", 1), ("c", 2), ("d", 2), ("e", 3)]
        for key, answer in zip((1, 3, 5, 7, 9), answers):
            for again in (False, True):
                self.assertEqual(table.find(key), answer)
                self.assertEqual([type(table.find(key))] + [type(part) for part in table.find(key)], [tuple, str, int])

    def test_the_thing_laid_last(self):
        table = filled(2, 8, [(1, "a"), (1, "b"), (1, "c")])
        self.assertEqual(table.find(1), ("c", 1))

    def test_lacking(self):
        table = filled(2, 2, [(1, "a"), (3, "b"), (5, "c")])
        ahead = told(table)
        for key in (0, 2, 4, 7, END - 1):
            self.refused(Lacking, "key", key, table.find, key)
        self.refused(Lacking, "key", 1, Table(1, 1).find, 1)
        self.assertEqual(told(table), ahead)
        table.drop(3)
        self.refused(Lacking, "key", 3, table.find, 3)
        table.put(3, "zz")
        self.assertEqual(table.find(3)[0], "zz")

    def test_no_key(self):
        for table in (Table(2, 2), filled(2, 2, [(1, "a"), (0, "b"), (5, "c")])):
            ahead = told(table)
            for key in NO_KEYS:
                self.refused(NoKey, "key", key, table.find, key)
                self.refused(NoKey, "key", key, table.looks, key)
            self.assertEqual(told(table), ahead)


class Looks(TableTest):
    def test_any_key(self):
        table = filled(2, 8, [(1, "a"), (3, "b"), (5, "c"), (7, "d"), (9, "e")])
        for key, answer in (
            (0, (False, 1)), (1, (True, 1)), (2, (False, 1)), (3, (True, 1)), (4, (False, 2)), (5, (True, 2)),
            (8, (False, 3)), (9, (True, 3)), (10, (False, 3)), (END - 1, (False, 3)),
        ):
            for again in (False, True):
                got = table.looks(key)
                self.assertEqual(got, answer, key)
                self.assertEqual([type(got), type(got[0]), type(got[1])], [tuple, bool, int])

    def test_keys_that_were_dropped_and_that_never_stood(self):
        draw = Random(34)
        for wide, fill in ((1, 1), (1, 8), (2, 5), (8, 3)):
            entries = some_entries(30, draw)
            table = filled(wide, fill, entries)
            dropped = [key for key, thing in entries[::3]]
            for key in dropped:
                table.drop(key)
            left = [key for key, thing in table.entries()]
            asked = dropped + left + list(range(70)) + edge_keys()
            spread = plain_spread(left, table.rooms())
            for key in asked:
                own = [room for room in plain_spread(left + [key] * (key not in left), table.rooms()) if key in room][0]
                rows = plain_rows([other for other in own if other in left], wide)
                self.assertEqual(table.looks(key), plain_look(rows, key))
            self.assertEqual(spread, [[key for row in table.room(at) for key, thing in row] for at in range(table.rooms())])


class Room(TableTest):
    def test_no_room(self):
        for table in (Table(2, 2), filled(2, 2, [(key, "a") for key in range(9)])):
            ahead = told(table)
            rooms = table.rooms()
            for number in whatever() + [-1, rooms, rooms + 1, -rooms, 130, END, FAR, -FAR, "a", "0"]:
                self.refused(NoRoom, "number", number, table.room, number)
            self.assertEqual(told(table), ahead)

    def test_once_the_room_is_there(self):
        table = filled(1, 1, [(0, "a")])
        self.refused(NoRoom, "number", 1, table.room, 1)
        table.put(1, "b")
        self.assertEqual(table.room(1), [[(1, "b")]])
        table.drop(1)
        self.refused(NoRoom, "number", 1, table.room, 1)

    def test_rows_of_entries(self):
        table = filled(2, 8, [(9, "e"), (1, "a"), (5, "c"), (3, "b"), (7, "d")])
        self.assertEqual(table.room(0), [[(1, "a"), (3, "b")], [(5, "c"), (7, "d")], [(9, "e")]])
        table = filled(2, 2, [(9, "e"), (1, "a"), (5, "c")])
        self.assertEqual([table.room(0), table.room(1)], [[[]], [[(1, "a"), (5, "c")], [(9, "e")]]])
        for row in table.room(1):
            self.assertEqual([type(row)] + [type(entry) for entry in row], [list] + [tuple] * len(row))

    def test_longest_tells_the_first_room(self):
        table = filled(1, 2, [(1, "a"), (3, "b"), (2, "c"), (4, "d")])
        self.assertEqual((table.rooms(), table.longest(), table.spill()), (2, (2, 0), 2))
        table.drop(2)
        self.assertEqual((table.rooms(), table.longest(), table.spill()), (2, (2, 1), 1))


class Against(TableTest):
    def test_each_put_and_drop_against_a_plain_dict(self):
        draw = Random(35)
        for wide, fill in ((1, 1), (1, 8), (2, 2), (3, 1), (4, 7), (8, 1), (8, 8), (5, 3)):
            table, things = Table(wide, fill), {}
            entries = some_entries(40, draw)
            for turn in range(120):
                key, thing = draw.choice(entries)
                if key in things and draw.random() < 0.6:
                    self.drop(table, things, key)
                else:
                    self.put(table, things, key, thing)
                self.same(table, things)


class Twin(TableTest):
    def test_the_same(self):
        for wide, fill in ((1, 1), (2, 3), (8, 8)):
            things = dict(some_entries(30, Random(36)))
            table = filled(wide, fill, things.items())
            twin = table.twin()
            self.assertIs(type(twin), Table)
            self.assertIsNot(twin, table)
            self.assertEqual((twin.wide, twin.fill), (wide, fill))
            self.same(twin, things)
            self.same(twin.twin(), things)
            self.same(Table(wide, fill).twin(), {})

    def test_none_touches_another(self):
        draw = Random(37)
        table = filled(2, 3, some_entries(20, draw))
        tables = [table, table.twin(), table.twin()]
        tables.append(tables[1].twin())
        tables.append(tables[3].twin())
        dicts = [dict(table.entries()) for at in tables]
        for turn in range(100):
            at = draw.randrange(len(tables))
            if dicts[at] and draw.random() < 0.5:
                self.drop(tables[at], dicts[at], draw.choice(sorted(dicts[at])))
            else:
                self.put(tables[at], dicts[at], draw.choice(range(60)), draw.choice(WORDS))
            for each, things in zip(tables, dicts):
                self.assertEqual(each.entries(), sorted(things.items()))
        for each, things in zip(tables, dicts):
            self.same(each, things)

    def test_refusals_of_a_twin(self):
        twin = filled(2, 3, [(key, "a") for key in range(64)]).twin()
        self.refused(NoKey, "key", -1, twin.put, -1, "a")
        self.refused(Lacking, "key", 64, twin.drop, 64)
        with self.assertRaises(Full):
            twin.put(64, "a")


class SameTable(TableTest):
    def test_other_orders_and_detours(self):
        draw = Random(6)
        for wide, fill in ((1, 1), (2, 3), (3, 2), (8, 8), (1, 8)):
            for many in (0, 1, 5, 30, 63, 64):
                entries = some_entries(many, draw)
                answer = plain_table(dict(entries), wide, fill)
                for order in (entries, entries[::-1], sorted(entries), draw.sample(entries, many)):
                    self.assertEqual(told(filled(wide, fill, order)), answer)
                self.assertEqual(told(self.by_detours(wide, fill, entries, draw)), answer)

    def by_detours(self, wide, fill, entries, draw):
        """A table with the entries, come to by further keys, other things and drops."""
        table = Table(wide, fill)
        own = dict(entries)
        others = [key for key, thing in some_entries(120, draw) if key not in own][:40]
        for key in others:
            table.put(key, "other")
        for key, thing in entries:
            if table.count() == 64:
                table.drop(others.pop())
            table.put(key, draw.choice(WORDS))
        for key in draw.sample(others, len(others)):
            table.drop(key)
        for key, thing in draw.sample(entries, len(entries)):
            if draw.random() < 0.5:
                table.drop(key)
            table.put(key, thing)
        return table

    def test_refusals_between(self):
        entries = some_entries(30, Random(61))
        table = Table(2, 2)
        for key, thing in entries:
            for deed, handed in ((table.put, (-1, "a")), (table.put, (key, "A")), (table.drop, (key,))):
                with self.assertRaises((NoKey, NoThing, Lacking)):
                    deed(*handed)
            table.put(key, thing)
        self.same(table, dict(entries))


class Asked(TableTest):
    def test_told_lists_are_the_askers_own(self):
        things = dict(some_entries(30, Random(30)))
        table = filled(2, 3, things.items())
        for turn in range(2):
            table.entries().clear()
            table.entries()[0] = None
            for number in range(table.rooms()):
                rows = table.room(number)
                for row in rows:
                    row.append((1, "x"))
                    row.reverse()
                rows.append([(2, "y")])
                table.room(number).clear()
            self.same(table, things)

    def test_keys_of_a_split_and_a_join_are_the_askers_own(self):
        table = filled(2, 1, [(1, "a")])
        first = table.put(3, "b")
        first[2].append(77)
        self.assertEqual(table.room(1), [[(1, "a"), (3, "b")]])
        second = table.drop(1)
        self.assertEqual(second, (1, 0, [3]))
        second[2].clear()
        self.same(table, {3: "b"})

    def test_what_was_told_does_not_change_later(self):
        table = filled(2, 2, [(1, "a"), (3, "b")])
        entries, rows, split = table.entries(), table.room(0), table.put(5, "c")
        table.put(1, "z")
        table.drop(3)
        self.assertEqual(entries, [(1, "a"), (3, "b")])
        self.assertEqual(rows, [[(1, "a"), (3, "b")]])
        self.assertEqual(split, (0, 1, [1, 3, 5]))

    def test_asking_changes_nothing(self):
        things = dict(some_entries(30, Random(31)))
        table = filled(3, 2, things.items())
        self.assertEqual(told(table), told(table))
        self.same(table, things)


if __name__ == "__main__":
    unittest.main()
