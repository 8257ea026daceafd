"""Tests of what further keys can do [3, 9, 61 to 64]."""

import unittest
from random import Random

from tailrooms.further import fewest_for, greatest_spill, is_greatest, is_least, least_spill, most_for
from tailrooms.spread import spill
from plain import all_puts, plain_rows_for, plain_spill
from things import END, FAR, whatever

SIZES = range(1, 9)


def sums(counts, put):
    return [many + comes for many, comes in zip(counts, put)]


def free(counts, wide):
    """How many keys fill the rows that there are."""
    return sum(plain_rows_for(many, wide) * wide - many for many in counts)


def near(wide):
    """Counts of 0, at multiples of wide and beside them."""
    return sorted({0, 1, wide - 1, wide, wide + 1, 2 * wide - 1, 2 * wide, 2 * wide + 1})


def small_cases(seed):
    """Tuples (counts, wide, more) of few rooms and few further keys."""
    draw = Random(seed)
    told = []
    for wide in SIZES:
        for many in range(2 * wide + 2):
            told += [([many], wide, more) for more in range(2 * wide + 3)]
        for rooms, turns, most in ((2, 40, 2 * wide + 2), (3, 25, 12), (4, 10, 7), (5, 6, 5)):
            for turn in range(turns):
                counts = [draw.choice(near(wide)) for room in range(rooms)]
                just = free(counts, wide)
                mores = {0, 1, 2, wide, wide + 1, just - 1, just, just + 1, draw.randint(0, most)}
                told += [(counts, wide, more) for more in sorted(mores) if 0 <= more <= most]
    return told


def extremes(counts, wide, more):
    """The tuple (least, greatest) by all puts, room by room; the rooms may be many, the keys not."""
    least, greatest = [0] + [FAR] * more, [0] + [-FAR] * more
    for many in counts:
        rows = [plain_rows_for(many + comes, wide) - 1 for comes in range(more + 1)]
        least = [min(least[at - comes] + rows[comes] for comes in range(at + 1)) for at in range(more + 1)]
        greatest = [max(greatest[at - comes] + rows[comes] for comes in range(at + 1)) for at in range(more + 1)]
    return (least[more], greatest[more])


class PutTest(unittest.TestCase):
    def told(self, deed, counts, wide, more, *answer):
        """What is told is a spill and a put behind which it is so; what is handed in stays as it was."""
        handed = list(counts)
        told = deed(handed, wide, more)
        self.assertEqual([type(part) for part in (told,) + told], [tuple, int, list])
        here, put = told
        self.assertEqual([type(comes) for comes in put], [int] * len(counts))
        self.assertGreaterEqual(min(put), 0)
        self.assertEqual(sum(put), more)
        self.assertEqual(here, plain_spill(sums(counts, put), wide), (counts, wide, more, put))
        self.assertEqual(here, spill(sums(counts, put), wide))
        deed(handed, wide, more)[1].clear()
        self.assertEqual(deed(handed, wide, more), told)
        self.assertEqual(handed, counts)
        handed[0] += 5
        self.assertEqual(sum(put), more)
        if answer:
            self.assertEqual(here, answer[0], (deed, counts, wide, more))
        return here

    def greatest(self, *handed):
        return self.told(greatest_spill, *handed)

    def least(self, *handed):
        return self.told(least_spill, *handed)


class Spills(PutTest):
    def test_against_all_puts(self):
        for counts, wide, more in small_cases(62):
            spills = [plain_spill(sums(counts, put), wide) for put in all_puts(len(counts), more)]
            self.greatest(counts, wide, more, max(spills))
            self.least(counts, wide, more, min(spills))
            self.assertEqual(extremes(counts, wide, more), (min(spills), max(spills)))

    def test_examples(self):
        self.greatest([0], 3, 3, 0)
        self.greatest([0], 3, 4, 1)
        self.greatest([0, 1], 3, 3, 1)
        self.greatest([0, 1], 3, 6, 2)
        self.greatest([3, 6, 0], 3, 2, 3)
        self.greatest([0, 0, 0], 1, 5, 4)
        self.least([0, 0, 0], 1, 3, 0)
        self.least([0, 0, 0], 1, 5, 2)
        self.least([3, 6, 0], 3, 3, 1)
        self.least([3, 6, 0], 3, 4, 2)

    def test_no_further_keys(self):
        draw = Random(620)
        for wide in SIZES:
            for turn in range(20):
                counts = [draw.choice(near(wide) + [50, 10 ** 9]) for room in range(draw.randint(1, 120))]
                for deed in (self.greatest, self.least):
                    deed(counts, wide, 0, plain_spill(counts, wide))

    def test_rooms_without_keys(self):
        for wide in SIZES:
            for rooms in (1, 2, 7, 120, 130):
                for more in (0, 1, wide, wide + 1, 2 * wide, 2 * wide + 1, 500):
                    self.greatest([0] * rooms, wide, more, max(0, -(-more // wide) - 1))
                    self.least([0] * rooms, wide, more, max(0, -(-more // wide) - rooms))

    def test_as_many_as_fill_the_rows_one_more_and_one_less(self):
        draw = Random(621)
        for wide in SIZES:
            for turn in range(20):
                counts = [draw.choice(near(wide)) for room in range(draw.randint(1, 60))]
                here, just = plain_spill(counts, wide), free(counts, wide)
                self.least(counts, wide, just, here)
                self.least(counts, wide, max(0, just - 1), here)
                self.least(counts, wide, just + 1, here + 1)
                self.least(counts, wide, just + wide, here + 1)
                self.least(counts, wide, just + wide + 1, here + 2)

    def test_many_rooms(self):
        draw = Random(622)
        for turn in range(12):
            wide = draw.choice(SIZES)
            counts = [draw.choice(near(wide) + [draw.randint(0, 90)]) for room in range(120)]
            more = draw.choice((1, 2, 9, 30, 60))
            least, greatest = extremes(counts, wide, more)
            self.greatest(counts, wide, more, greatest)
            self.least(counts, wide, more, least)

    def test_far(self):
        self.greatest([10 ** 9], 1, 10 ** 10, 11 * 10 ** 9 - 1)
        self.least([10 ** 9], 1, 10 ** 10, 11 * 10 ** 9 - 1)
        self.greatest([10 ** 9, 10 ** 9], 8, 10 ** 10, 2 * (125 * 10 ** 6 - 1) + 2 + (10 ** 10 - 2) // 8)
        self.least([10 ** 9, 10 ** 9], 8, 10 ** 10, 12 * 10 ** 9 // 8 - 2)
        self.greatest([0, 0], 1, 10 ** 10, 10 ** 10 - 1)
        self.least([0, 0], 1, 10 ** 10, 10 ** 10 - 2)
        self.greatest([0, 10 ** 9], 3, 10 ** 10, (11 * 10 ** 9 - 1) // 3)
        for wide in SIZES:
            counts = [10 ** 9 - at for at in range(120)]
            rows = -(-(sum(counts) + 10 ** 10) // wide)
            self.least(counts, wide, 10 ** 10, rows - 120)
            gaps = sum(plain_rows_for(many, wide) * wide + 1 - many for many in counts)
            self.greatest(counts, wide, 10 ** 10, plain_spill(counts, wide) + 120 + (10 ** 10 - gaps) // wide)


class IsPut(PutTest):
    def asked(self, counts, wide, more, thing):
        """The tuple of what both tell; neither changes anything."""
        handed, ahead = list(counts), repr(thing)
        told = (is_greatest(handed, wide, more, thing), is_least(handed, wide, more, thing))
        self.assertEqual([type(told[0]), type(told[1])], [bool, bool])
        self.assertEqual((is_greatest(handed, wide, more, thing), is_least(handed, wide, more, thing)), told)
        self.assertEqual((handed, repr(thing)), (counts, ahead))
        return told

    def test_told_puts(self):
        draw = Random(63)
        for wide in SIZES:
            for turn in range(20):
                counts = [draw.choice(near(wide) + [10 ** 9]) for room in range(draw.choice((1, 2, 5, 120)))]
                more = draw.choice((0, 1, wide, 50, 10 ** 10))
                self.assertIs(is_greatest(counts, wide, more, greatest_spill(counts, wide, more)[1]), True)
                self.assertIs(is_least(counts, wide, more, least_spill(counts, wide, more)[1]), True)

    def test_every_put(self):
        for counts, wide, more in small_cases(630)[::3]:
            puts = all_puts(len(counts), more)
            spills = [plain_spill(sums(counts, put), wide) for put in puts]
            for put, here in zip(puts, spills):
                answer = (here == max(spills), here == min(spills))
                self.assertEqual(self.asked(counts, wide, more, put), answer, (counts, wide, more, put))

    def test_neither_and_both(self):
        self.assertEqual(self.asked([1, 2, 3], 2, 0, [0, 0, 0]), (True, True))
        self.assertEqual(self.asked([5], 2, 7, [7]), (True, True))
        self.assertEqual(self.asked([0, 2, 2], 2, 3, [1, 1, 1]), (True, False))
        self.assertEqual(self.asked([0, 2, 2], 2, 3, [2, 0, 1]), (False, True))
        self.assertEqual(self.asked([0, 0, 2], 1, 4, [2, 0, 2]), (False, False))

    def test_sums_that_are_not_more(self):
        for counts, wide, more in small_cases(631)[::9]:
            for other in (more - 1, more + 1, more + wide, 0):
                if other >= 0 and other != more:
                    for deed in (greatest_spill, least_spill):
                        put = deed(counts, wide, other)[1]
                        self.assertEqual(self.asked(counts, wide, more, put), (False, False))

    def test_lists_too_short_or_too_long(self):
        for counts, wide, more in small_cases(632)[::9]:
            for deed in (greatest_spill, least_spill):
                put = deed(counts, wide, more)[1]
                for other in (put + [0], [0] + put, put + put, put[:-1], put[1:], put[:-1] + [0] + put[-1:], []):
                    self.assertEqual(self.asked(counts, wide, more, other), (False, False))

    def test_another_kind_in_the_place_of_the_list(self):
        for counts, more in (([1], 0), ([1], 2), ([0, 3], 0), ([0, 3], 1), ([2, 2, 2], 4)):
            put = greatest_spill(counts, 2, more)[1]
            things = [tuple(put), str(put), {at: comes for at, comes in enumerate(put)}, set(put), [put], (put,), more]
            for thing in things + whatever() + [0, 1, -1, END, FAR, "abc", "[0]", "[1]", [0] * 130, [[0]], [(0,)]]:
                self.assertEqual(self.asked(counts, 2, more, thing), (False, False), thing)

    def test_numbers_below_0(self):
        self.assertEqual(self.asked([5, 5], 1, 3, [4, -1]), (False, False))
        self.assertEqual(self.asked([5, 5], 1, 3, [-1, 4]), (False, False))
        self.assertEqual(self.asked([5, 5], 1, 0, [-1, 1]), (False, False))
        self.assertEqual(self.asked([5, 5, 5], 2, 1, [-FAR, FAR, 1]), (False, False))
        self.assertEqual(self.asked([5, 5], 1, 3, [0, 3]), (True, True))

    def test_things_among_the_numbers(self):
        self.assertEqual(self.asked([5, 5], 1, 1, [0, 1]), (True, True))
        for put in ([False, 1], [0, True], [False, True]):
            self.assertEqual(self.asked([5, 5], 1, 1, put), (False, False))
        self.assertEqual(self.asked([5, 5], 1, 0, [False, False]), (False, False))
        for thing in whatever() + ["0", "abc", [0], (0,), {0: 0}]:
            for put in ([thing, 1], [1, thing], [thing, thing]):
                self.assertEqual(self.asked([5, 5], 1, 1, put), (False, False), put)
            self.assertEqual(self.asked([5], 1, 0, [thing]), (False, False), thing)


class HowMany(PutTest):
    def fewest(self, counts, wide, here, *answer):
        handed = list(counts)
        told = fewest_for(handed, wide, here)
        self.assertIs(type(told), int)
        self.assertEqual((fewest_for(handed, wide, here), handed), (told, counts))
        self.assertGreaterEqual(greatest_spill(counts, wide, told)[0], here)
        if plain_spill(counts, wide) >= here:
            self.assertEqual(told, 0)
        else:
            self.assertLess(greatest_spill(counts, wide, told - 1)[0], here)
        if answer:
            self.assertEqual(told, answer[0], (counts, wide, here))

    def most(self, counts, wide, here, *answer):
        handed = list(counts)
        told = most_for(handed, wide, here)
        self.assertEqual((most_for(handed, wide, here), handed), (told, counts))
        if plain_spill(counts, wide) > here:
            self.assertIsNone(told)
        else:
            self.assertIs(type(told), int)
            self.assertGreaterEqual(told, 0)
            self.assertLessEqual(least_spill(counts, wide, told)[0], here)
            self.assertGreater(least_spill(counts, wide, told + 1)[0], here)
        if answer:
            self.assertEqual(told, answer[0], (counts, wide, here))

    def test_examples(self):
        self.fewest([0], 3, 0, 0)
        self.fewest([0], 3, 1, 4)
        self.fewest([0], 3, 2, 7)
        self.fewest([0, 0], 3, 2, 7)
        self.fewest([0, 3], 3, 1, 1)
        self.fewest([0, 3], 3, 2, 4)
        self.fewest([1, 3, 5], 3, 1, 0)
        self.fewest([1, 3, 5], 3, 2, 1)
        self.fewest([1, 3, 5], 3, 3, 3)
        self.fewest([1, 3, 5], 3, 4, 6)
        self.fewest([1, 3, 5], 3, 5, 9)
        self.most([0], 3, 0, 3)
        self.most([0], 3, 1, 6)
        self.most([1, 3, 5], 3, 0, None)
        self.most([1, 3, 5], 3, 1, 3)
        self.most([1, 3, 5], 3, 2, 6)
        self.most([3, 3], 3, 0, 0)
        self.most([4], 1, 2, None)
        self.most([4], 1, 3, 0)

    def test_against_all_puts(self):
        draw = Random(64)
        for wide in (1, 2, 3, 4):
            for turn in range(25):
                counts = [draw.choice(near(wide)) for room in range(draw.choice((1, 2, 3)))]
                here = plain_spill(counts, wide)
                by_more = [extremes(counts, wide, more) for more in range(2 * wide + 3 + free(counts, wide))]
                for asked in (0, max(0, here - 1), here, here + 1, here + 2):
                    reached = [more for more, (least, greatest) in enumerate(by_more) if greatest >= asked]
                    self.fewest(counts, wide, asked, *reached[:1])
                    kept = [more for more, (least, greatest) in enumerate(by_more) if least <= asked]
                    if not kept or kept[-1] < len(by_more) - 1:
                        self.most(counts, wide, asked, kept[-1] if kept else None)

    def test_near_what_there_is(self):
        draw = Random(640)
        for wide in SIZES:
            for turn in range(25):
                counts = [draw.choice(near(wide) + [70]) for room in range(draw.choice((1, 2, 5, 60, 120, 130)))]
                here = plain_spill(counts, wide)
                for asked in {0, 1, here - 1, here, here + 1, here + 2, here + 60, here + 200, 10 ** 9 - 1, 10 ** 9}:
                    if asked >= 0:
                        self.fewest(counts, wide, asked)
                        self.most(counts, wide, asked)

    def test_far(self):
        for wide in SIZES:
            self.fewest([0], wide, 10 ** 9, wide * 10 ** 9 + 1)
            self.most([0], wide, 10 ** 9, wide * (10 ** 9 + 1))
            self.fewest([10 ** 9] * 120, wide, 10 ** 9, 0)
            self.most([10 ** 9] * 120, wide, 10 ** 9, None)
            self.most([10 ** 9], wide, 10 ** 9)
            self.fewest([10 ** 9], wide, 10 ** 9)


class Bounds(PutTest):
    def test_whichever_keys_come(self):
        draw = Random(91)
        for turn in range(400):
            wide = draw.choice(SIZES)
            counts = [draw.choice(near(wide) + [30]) for room in range(draw.randint(1, 12))]
            put = [draw.choice((0, 0, 1, wide, draw.randint(0, 40))) for room in counts]
            here = plain_spill(sums(counts, put), wide)
            self.assertTrue(self.least(counts, wide, sum(put)) <= here <= self.greatest(counts, wide, sum(put)))


if __name__ == "__main__":
    unittest.main()
