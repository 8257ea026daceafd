"""Tests of mending [3, 7, 48]."""

import unittest
from copy import deepcopy
from random import Random

from tailrooms.changes import dropping, joining, putting, splitting
from tailrooms.mends import mended, mending
from tailrooms.yards import done_all, found, is_clean, yard_of
from plain import plain_mended, plain_onward, plain_yard
from things import END, some_entries

A, B, C, D, E = (0, "a"), (1, "b"), (2, "c"), (3, "d"), (4, "e")


def small_yards(seed, many):
    """Clean yards, few rooms, some with many entries in one room."""
    draw = Random(seed)
    told = []
    for turn in range(many):
        rooms = draw.choice((1, 2, 2, 3, 4, 5, 6, 7, 8))
        told.append(yard_of(draw.choice((1, 1, 2, 3)), rooms, some_entries(draw.randint(0, 14), draw)))
    for wide in (1, 2):
        told += [yard_of(wide, rooms, [(key, "k") for key in range(3, 40, 4)]) for rooms in (1, 2, 3)]
    return told


def changes_of(yard, draw):
    """The steps of a splitting, a joining, some puttings and droppings."""
    told = [splitting(yard)]
    if yard[1] > 1:
        told.append(joining(yard))
    told += [putting(yard, key, thing) for key, thing in some_entries(2, draw) + [(3, "new")]]
    keys = [key for rows in yard[2] for row in rows for key, thing in row]
    return told + [dropping(yard, key) for key in draw.sample(keys, min(3, len(keys)))]


def stopped_yards(seed, many):
    """Yards that came of clean ones by first steps of a change, each number of them."""
    draw = Random(seed)
    told = []
    for yard in small_yards(seed, many):
        for steps in changes_of(yard, draw):
            told += [done_all(yard, steps[:at]) for at in range(len(steps) + 1)]
    return told


def drawn_yard(draw):
    """Any yard: entries in wrong rooms, twice, out of order; rooms without rows, rooms beyond the number of rooms."""
    held = []
    for room in range(draw.randint(0, 7)):
        rows = [[draw.randrange(24) for at in range(draw.randint(0, 4))] for at in range(draw.randint(0, 4))]
        held.append([[(key, draw.choice("abcd")) for key in row] for row in rows])
    while held and not held[-1]:
        held.pop()
    return (draw.randint(1, 4), draw.randint(1, 8), held)


def all_found(yard):
    """All that is found in the yard of the keys that stand somewhere in it, and of some others."""
    keys = {key for rows in yard[2] for row in rows for key, thing in row} | set(range(6)) | {END - 1}
    told = {key: found(yard, key)[0] for key in keys}
    return {key: told[key] for key in told if told[key] is not None}


class MendTest(unittest.TestCase):
    def mended(self, yard, *answer):
        ahead = deepcopy(yard)
        told = mended(yard)
        self.assertEqual(told, plain_mended(yard), yard)
        if answer:
            self.assertEqual(told, answer[0], yard)
        self.assertEqual([type(part) for part in (told,) + told], [tuple, int, int, list])
        self.assertIs(is_clean(told), True)
        spoilt = mended(yard)
        for rows in spoilt[2]:
            for row in rows:
                row.append((5, "spoilt"))
            rows.append([(6, "spoilt")])
        spoilt[2].clear()
        self.assertEqual(yard, ahead)
        self.assertEqual(mended(yard), told)
        return told

    def mending(self, yard, *answer):
        ahead = deepcopy(yard)
        told = mending(yard)
        self.assertEqual(told, self.points(yard), yard)
        if answer:
            self.assertEqual(told, answer[0], yard)
        self.assertEqual([type(told)] + [type(step) for step in told], [list] + [tuple] * len(told))
        self.assertEqual(done_all(yard, told), mended(yard))
        spoilt = mending(yard)
        for step in spoilt:
            if step[0] == "row":
                step[3].append((5, "spoilt"))
        spoilt.append(None)
        self.assertEqual(yard, ahead)
        self.assertEqual(mending(yard), told)
        return told

    def points(self, yard):
        """The steps of a mending, just as the point has them."""
        wide, rooms, held = yard
        new = plain_mended(yard)[2]
        steps = []
        for room in range(rooms):
            steps += plain_onward(room, held[room] if room < len(held) else [], new[room])
        for room in range(len(held) - 1, rooms - 1, -1):
            steps += [("cut", room, 0)] * (len(held[room]) > 0)
        return steps


class Mended(MendTest):
    def test_clean_yards(self):
        for yard in small_yards(48, 60):
            self.mended(yard, yard)
            self.mending(yard, [])

    def test_no_rooms_held(self):
        for rooms in (1, 2, 5, 130):
            self.mended((2, rooms, []), (2, rooms, [[[]]] * rooms))
            self.mending((2, rooms, []), [("row", room, 0, []) for room in range(rooms)])

    def test_entries_in_wrong_rooms(self):
        self.mended((2, 2, [[[A, B]], [[C, D]]]), (2, 2, [[[A]], [[D]]]))
        self.mending((2, 2, [[[A, B]], [[C, D]]]), [("row", 0, 0, [A]), ("row", 1, 0, [D])])
        self.mended((2, 2, [[[B]], [[A]]]), (2, 2, [[[]], [[]]]))

    def test_entries_in_rooms_beyond(self):
        self.mended((2, 1, [[[A]], [[B]], [], [[D]]]), (2, 1, [[[A]]]))
        self.mending((2, 1, [[[A]], [[B]], [], [[D]]]), [("cut", 3, 0), ("cut", 1, 0)])
        self.mended((2, 2, [[[]], [[B]], [[C]]]), (2, 2, [[[]], [[B]]]))
        self.mending((2, 2, [[[]], [[B]], [[C]]]), [("cut", 2, 0)])

    def test_entries_twice(self):
        self.mended((2, 1, [[[A, (0, "z")]]]), (2, 1, [[[A]]]))
        self.mended((2, 1, [[[(0, "z"), A]]]), (2, 1, [[[(0, "z")]]]))
        self.mended((2, 1, [[[A, B], [(1, "z"), C]]]), (2, 1, [[[A, B], [C]]]))
        self.mended((2, 2, [[[(1, "z"), A]], [[B]]]), (2, 2, [[[A]], [[B]]]))
        self.mended((2, 2, [[[(3, "z")]], [[B], [D, (3, "y")]], [[(1, "x")]]]), (2, 2, [[[]], [[B, D]]]))

    def test_entries_out_of_order(self):
        self.mended((2, 1, [[[D, B], [C, A]]]), (2, 1, [[[A, B], [C, D]]]))
        self.mending((2, 1, [[[D, B], [C, A]]]), [("row", 0, 0, [A, B]), ("row", 0, 1, [C, D])])
        self.mended((1, 1, [[[B], [A]]]), (1, 1, [[[A], [B]]]))

    def test_rows_cut_otherwise(self):
        self.mended((2, 1, [[[A], [], [B], [C]]]), (2, 1, [[[A, B], [C]]]))
        self.mending((2, 1, [[[A], [], [B], [C]]]), [("row", 0, 0, [A, B]), ("row", 0, 1, [C]), ("cut", 0, 2)])
        self.mended((1, 1, [[[A, B, C]]]), (1, 1, [[[A], [B], [C]]]))
        self.mending((2, 1, [[[], []]]), [("cut", 0, 1)])

    def test_rooms_without_rows(self):
        self.mended((2, 3, [[], [[B]]]), (2, 3, [[[]], [[B]], [[]]]))
        self.mending((2, 3, [[], [[B]]]), [("row", 0, 0, []), ("row", 2, 0, [])])
        self.mending((2, 3, [[[E]], [], [], [], [[]]]), [("row", 1, 0, []), ("row", 2, 0, []), ("cut", 4, 0)])

    def test_any_yards(self):
        draw = Random(480)
        for turn in range(600):
            yard = drawn_yard(draw)
            there = self.mended(yard)
            self.mending(yard)
            self.mended(there, there)
            self.mending(there, [])

    def test_any_yards_stopped_at_each_step(self):
        draw = Random(481)
        for turn in range(150):
            yard = drawn_yard(draw)
            steps = mending(yard)
            for many in range(len(steps) + 1):
                self.mending(done_all(yard, steps[:many]))


class Stopped(MendTest):
    def test_mended_is_the_yard_of_what_is_found(self):
        for yard in stopped_yards(7, 50):
            self.mended(yard, plain_yard(yard[0], yard[1], all_found(yard)))

    def test_mending_leads_to_mended(self):
        for yard in stopped_yards(70, 50):
            self.mending(yard)

    def test_behind_each_step_of_a_mending_all_is_found_as_ahead(self):
        for yard in stopped_yards(71, 50):
            steps = mending(yard)
            ahead = all_found(yard)
            for many in range(len(steps) + 1):
                self.assertEqual(all_found(done_all(yard, steps[:many])), ahead, (yard, many))

    def test_a_mending_that_is_stopped_and_mended_again(self):
        for yard in stopped_yards(72, 14):
            steps = mending(yard)
            ahead, there = all_found(yard), mended(yard)
            for many in range(len(steps) + 1):
                stopped = done_all(yard, steps[:many])
                self.mended(stopped, there)
                further = self.mending(stopped)
                for more in range(len(further) + 1):
                    again = done_all(stopped, further[:more])
                    self.assertEqual(all_found(again), ahead)
                    self.assertEqual(mended(again), there)
                    self.assertEqual(done_all(again, mending(again)), there)


if __name__ == "__main__":
    unittest.main()
