"""Tests of keepers [3, 5, 6, 7, 81 to 84]."""

import unittest
from copy import deepcopy
from random import Random

from tailrooms.changes import dropping, joining, putting, splitting
from tailrooms.errors import Busy, Full, Lacking, NoKey, NoSize, NoThing
from tailrooms.keeper import Keeper
from tailrooms.mends import mending
from tailrooms.yards import done_all, found, is_clean
from plain import plain_found, plain_mended, plain_rooms_for, plain_yard
from refusing import RefusalTest
from things import END, NO_KEYS, NO_SIZES, NO_THINGS, WORDS, edge_keys, some_entries

SIZES = range(1, 9)


def kept(wide, fill, entries):
    """A settled keeper with the entries."""
    keeper = Keeper(wide, fill)
    for key, thing in entries:
        keeper.put(key, thing)
        keeper.run()
    return keeper


def all_of(keeper):
    """All that a keeper tells of itself."""
    told = (keeper.wide, keeper.fill, keeper.yard(), keeper.left(), keeper.entries(), keeper.settled())
    return deepcopy(told)


def find_all(keeper, keys):
    """A dict of the things of those of the keys that are found."""
    told = {}
    for key in keys:
        try:
            told[key] = keeper.find(key)[0]
        except Lacking:
            pass
    return told


def fitted(yard, fill):
    """The steps of splittings or joinings until the yard has the rooms for its entries."""
    steps = []
    many = plain_rooms_for(sum(len(row) for rows in yard[2] for row in rows), fill)
    while yard[1] != many:
        steps += splitting(yard) if yard[1] < many else joining(yard)
        yard = done_all(yard, splitting(yard) if yard[1] < many else joining(yard))
    return steps


def settled_by(yard, left, fill):
    """Whether a keeper with that yard and those steps is settled."""
    many = sum(len(row) for rows in yard[2] for row in rows)
    return left == [] and is_clean(yard) and yard[1] == plain_rooms_for(many, fill)


class KeeperTest(RefusalTest):
    def busy(self, deed, *handed):
        with self.assertRaises(Busy) as taken:
            deed(*handed)
        self.assertIs(type(taken.exception), Busy)

    def whole(self, keeper, things):
        """The keeper is settled, and tells just what one with the dict's entries is to tell."""
        yard = plain_yard(keeper.wide, plain_rooms_for(len(things), keeper.fill), things)
        self.assertEqual(keeper.yard(), yard)
        self.assertEqual((keeper.left(), keeper.settled()), ([], True))
        self.assertEqual(keeper.entries(), sorted(things.items()))
        for key in things:
            self.assertEqual(keeper.find(key), plain_found(yard, key))

    def begun(self, keeper, steps, told):
        """What a change told that is to begin with the steps, and behind them with what its rooms ask for."""
        steps = steps + fitted(done_all(keeper.yard(), steps), keeper.fill)
        self.assertEqual(keeper.left(), steps)
        self.assertEqual(told, len(steps))
        self.assertIs(type(told), int)

    def put(self, keeper, key, thing):
        steps = putting(keeper.yard(), key, thing)
        self.begun(keeper, steps, keeper.put(key, thing))

    def drop(self, keeper, key):
        steps = dropping(keeper.yard(), key)
        self.begun(keeper, steps, keeper.drop(key))

    def mend(self, keeper):
        steps = mending(keeper.yard())
        self.begun(keeper, steps, keeper.mend())

    def run_all(self, keeper):
        """Runs, and sees that all steps were done."""
        yard, left = keeper.yard(), keeper.left()
        told = keeper.run()
        self.assertEqual(told, len(left))
        self.assertIs(type(told), int)
        self.assertEqual((keeper.yard(), keeper.left()), (done_all(yard, left), []))


class Made(KeeperTest):
    def test_values_and_what_it_is_at_first(self):
        for wide in SIZES:
            for fill in SIZES:
                keeper = Keeper(wide, fill)
                self.assertEqual((keeper.wide, keeper.fill), (wide, fill))
                self.assertEqual([type(keeper.wide), type(keeper.fill)], [int, int])
                self.assertEqual(keeper.yard(), (wide, 1, [[[]]]))
                self.assertEqual((keeper.left(), keeper.entries()), ([], []))
                self.assertIs(keeper.settled(), True)
                self.assertEqual((keeper.run(), keeper.stop(), keeper.step(), keeper.mend()), (0, 0, None, 0))
                self.whole(keeper, {})

    def test_no_wide(self):
        for thing in NO_SIZES:
            for fill in (1, 8):
                self.refused(NoSize, "thing", thing, Keeper, thing, fill)

    def test_no_fill(self):
        for thing in NO_SIZES:
            for wide in (1, 8):
                self.refused(NoSize, "thing", thing, Keeper, wide, thing)

    def test_the_wide_is_refused_first(self):
        for thing in NO_SIZES:
            for other in NO_SIZES:
                self.refused(NoSize, "thing", thing, Keeper, thing, other)


class Put(KeeperTest):
    def test_examples(self):
        keeper = Keeper(2, 2)
        self.assertEqual(keeper.put(5, "a"), 1)
        self.assertEqual(keeper.left(), [("row", 0, 0, [(5, "a")])])
        self.assertIs(keeper.settled(), False)
        self.assertEqual(keeper.run(), 1)
        self.assertEqual((keeper.put(8, "b"), keeper.run()), (1, 1))
        self.assertEqual(keeper.put(3, "c"), 6)
        self.assertEqual(keeper.left(), [
            ("row", 0, 1, [(8, "b")]), ("row", 0, 0, [(3, "c"), (5, "a")]),
            ("row", 1, 0, [(3, "c"), (5, "a")]), ("rooms", 2), ("row", 0, 0, [(8, "b")]), ("cut", 0, 1),
        ])
        self.assertEqual(keeper.run(), 6)
        self.assertEqual(keeper.yard(), (2, 2, [[[(8, "b")]], [[(3, "c"), (5, "a")]]]))
        self.assertEqual(keeper.drop(5), 4)
        self.assertEqual(keeper.left(), [
            ("row", 1, 0, [(3, "c")]), ("row", 0, 0, [(3, "c"), (8, "b")]), ("rooms", 1), ("cut", 1, 0),
        ])

    def test_a_put_that_splits(self):
        keeper = kept(2, 2, [(5, "a"), (8, "b")])
        self.put(keeper, 3, "c")
        self.assertIn(("rooms", 2), keeper.left())
        self.run_all(keeper)
        self.whole(keeper, {5: "a", 8: "b", 3: "c"})

    def test_the_very_entry_again(self):
        for wide, fill in ((1, 1), (2, 3), (8, 8)):
            things = dict(some_entries(20, Random(82)))
            keeper = kept(wide, fill, things.items())
            for key, thing in things.items():
                self.assertEqual(keeper.put(key, thing), 0)
                self.assertEqual((keeper.left(), keeper.settled()), ([], True))
            self.whole(keeper, things)

    def test_another_thing_by_a_key_that_stands(self):
        keeper = kept(1, 1, [(5, "a"), (8, "b")])
        self.assertEqual(keeper.put(5, "z"), 1)
        self.assertEqual(keeper.find(5)[0], "a")
        self.run_all(keeper)
        self.whole(keeper, {5: "z", 8: "b"})

    def test_drawn(self):
        draw = Random(820)
        for wide, fill in ((1, 1), (1, 8), (2, 2), (3, 1), (8, 1), (8, 8), (5, 3)):
            keeper, things = Keeper(wide, fill), {}
            entries = some_entries(30, draw)
            for turn in range(80):
                key, thing = draw.choice(entries)
                if key in things and draw.random() < 0.6:
                    del things[key]
                    self.drop(keeper, key)
                else:
                    things[key] = thing if draw.random() < 0.5 else draw.choice(WORDS)
                    self.put(keeper, key, things[key])
                self.run_all(keeper)
                self.whole(keeper, things)

    def test_up_to_full_and_down_again(self):
        for fill in (1, 3, 8):
            keeper, things = Keeper(2, fill), {}
            for key, thing in some_entries(64, Random(821)):
                self.put(keeper, key, thing)
                self.run_all(keeper)
                things[key] = thing
            self.whole(keeper, things)
            for key in sorted(things):
                self.drop(keeper, key)
                self.run_all(keeper)
                del things[key]
            self.whole(keeper, {})


class Refusals(KeeperTest):
    def states(self):
        """Keepers that are settled, amid a change, stopped amid it, and stopped ahead of the rooms' steps."""
        told = [kept(2, 2, [(5, "a"), (8, "b")])]
        for many, stops in ((0, False), (1, False), (2, False), (1, True), (2, True), (3, True)):
            keeper = kept(2, 2, [(5, "a"), (8, "b")])
            keeper.put(3, "c")
            for at in range(many):
                keeper.step()
            if stops:
                keeper.stop()
            told.append(keeper)
        return told

    def test_no_key(self):
        for keeper in self.states():
            seen = all_of(keeper)
            for key in NO_KEYS:
                self.refused(NoKey, "key", key, keeper.put, key, "a")
                self.refused(NoKey, "key", key, keeper.put, key, 5)
                self.refused(NoKey, "key", key, keeper.drop, key)
                self.refused(NoKey, "key", key, keeper.find, key)
            self.assertEqual(all_of(keeper), seen)

    def test_no_thing(self):
        for keeper in self.states():
            seen = all_of(keeper)
            for thing in NO_THINGS:
                for key in (0, 5, END - 1):
                    self.refused(NoThing, "thing", thing, keeper.put, key, thing)
            self.assertEqual(all_of(keeper), seen)

    def test_busy(self):
        for keeper in self.states()[1:]:
            seen = all_of(keeper)
            self.assertIs(keeper.settled(), False)
            for key in (3, 5, 8, 9):
                self.busy(keeper.put, key, "a")
                self.busy(keeper.drop, key)
            self.assertEqual(all_of(keeper), seen)

    def test_busy_until_it_is_mended(self):
        for keeper in self.states()[1:]:
            keeper.stop()
            if not keeper.settled():
                self.busy(keeper.put, 9, "z")
                self.mend(keeper)
                while keeper.left():
                    self.busy(keeper.put, 9, "z")
                    self.busy(keeper.drop, 5)
                    keeper.step()
            self.put(keeper, 9, "z")
            self.run_all(keeper)
            self.assertEqual(keeper.find(9)[0], "z")
            self.assertIs(keeper.settled(), True)

    def test_mend_with_steps_left(self):
        keeper = kept(2, 2, [(5, "a"), (8, "b")])
        keeper.put(3, "c")
        while keeper.left():
            seen = all_of(keeper)
            self.busy(keeper.mend)
            self.assertEqual(all_of(keeper), seen)
            keeper.step()
        self.assertEqual(keeper.mend(), 0)

    def test_mend_amid_a_mending(self):
        keeper = kept(1, 8, [(key, "a") for key in range(6)])
        keeper.drop(0)
        keeper.step()
        keeper.stop()
        self.assertGreater(keeper.mend(), 1)
        self.busy(keeper.mend)
        keeper.step()
        self.busy(keeper.mend)
        keeper.stop()
        self.mend(keeper)
        self.run_all(keeper)
        self.assertIs(keeper.settled(), True)

    def test_lacking(self):
        keeper = kept(2, 2, [(5, "a"), (8, "b"), (1, "c")])
        seen = all_of(keeper)
        for key in (0, 3, 9, END - 1):
            self.refused(Lacking, "key", key, keeper.drop, key)
            self.refused(Lacking, "key", key, keeper.find, key)
        self.assertEqual(all_of(keeper), seen)
        keeper.put(3, "z")
        keeper.run()
        self.assertEqual(keeper.find(3)[0], "z")
        self.assertGreater(keeper.drop(3), 0)

    def test_busy_ahead_of_lacking(self):
        for keeper in self.states()[1:]:
            for key in (0, 9, END - 1):
                self.busy(keeper.drop, key)

    def test_full(self):
        for wide, fill in ((1, 1), (8, 8), (3, 5)):
            things = {3 * at: "a" for at in range(64)}
            keeper = kept(wide, fill, things.items())
            seen = all_of(keeper)
            for key in (1, 191, 192, END - 1):
                with self.assertRaises(Full) as taken:
                    keeper.put(key, "b")
                self.assertIs(type(taken.exception), Full)
                self.assertEqual((taken.exception.many, type(taken.exception.many)), (64, int))
            for key in NO_KEYS:
                self.refused(NoKey, "key", key, keeper.put, key, "a")
            for thing in NO_THINGS:
                self.refused(NoThing, "thing", thing, keeper.put, 1, thing)
            self.assertEqual(all_of(keeper), seen)
            self.put(keeper, 3, "z")
            self.busy(keeper.put, 1, "b")
            self.run_all(keeper)
            things[3] = "z"
            self.whole(keeper, things)
            keeper.drop(6)
            self.busy(keeper.put, 1, "b")
            keeper.run()
            self.put(keeper, 1, "b")
            self.run_all(keeper)


class Steps(KeeperTest):
    def test_each_step_is_told_and_done(self):
        draw = Random(83)
        for turn in range(30):
            keeper = kept(draw.choice((1, 2, 3)), draw.choice((1, 2, 4)), some_entries(draw.randint(0, 20), draw))
            self.put(keeper, draw.choice(range(50)), "new")
            while keeper.left():
                yard, left = keeper.yard(), keeper.left()
                told = keeper.step()
                self.assertEqual(told, left[0])
                self.assertIs(type(told), tuple)
                self.assertEqual(keeper.yard(), done_all(yard, left[:1]))
                self.assertEqual(keeper.left(), left[1:])
            self.assertIsNone(keeper.step())
            self.assertEqual((keeper.run(), keeper.stop()), (0, 0))
            self.assertIs(keeper.settled(), True)

    def test_run_and_stop_behind_some_steps(self):
        for many in range(8):
            for deed in ("run", "stop"):
                keeper = kept(1, 2, [(1, "a"), (5, "b"), (3, "c"), (7, "d")])
                keeper.put(0, "z")
                for at in range(many):
                    keeper.step()
                yard, left = keeper.yard(), keeper.left()
                told = getattr(keeper, deed)()
                self.assertEqual((told, type(told)), (len(left), int))
                self.assertEqual(keeper.left(), [])
                self.assertEqual(keeper.yard(), done_all(yard, left if deed == "run" else []))
                self.assertEqual((keeper.run(), keeper.stop(), keeper.step()), (0, 0, None))

    def test_stopped_ahead_of_the_first_step_it_is_settled(self):
        things = {1: "a", 5: "b", 3: "c", 7: "d"}
        keeper = kept(1, 2, things.items())
        for begin in (lambda: keeper.put(0, "z"), lambda: keeper.drop(5), lambda: keeper.put(5, "z")):
            self.assertGreater(begin(), 0)
            self.assertIs(keeper.settled(), False)
            self.assertGreater(keeper.stop(), 0)
            self.whole(keeper, things)

    def test_settled_behind_each_step(self):
        draw = Random(81)
        for turn in range(40):
            keeper = kept(draw.choice((1, 2)), draw.choice((1, 2, 3)), some_entries(draw.randint(1, 12), draw))
            if draw.random() < 0.5:
                keeper.put(draw.choice(range(30)), "new")
            else:
                keeper.drop(draw.choice(keeper.entries())[0])
            while keeper.left():
                self.assertIs(keeper.settled(), False)
                keeper.step()
                stopped = deepcopy(keeper)
                stopped.stop()
                self.assertIs(stopped.settled(), settled_by(stopped.yard(), [], keeper.fill))
            self.assertIs(keeper.settled(), True)

    def test_clean_with_another_number_of_rooms_is_not_settled(self):
        keeper = kept(2, 2, [(5, "a"), (8, "b")])
        keeper.put(3, "c")
        keeper.step()
        keeper.step()
        keeper.stop()
        self.assertIs(is_clean(keeper.yard()), True)
        self.assertIs(keeper.settled(), False)
        self.busy(keeper.put, 3, "c")
        self.mend(keeper)
        self.run_all(keeper)
        self.whole(keeper, {5: "a", 8: "b", 3: "c"})


class Whole(KeeperTest):
    def changes(self, seed, turns):
        """Tuples of a settled keeper amid all steps of a change, the own key, and its things ahead and behind."""
        draw = Random(seed)
        for turn in range(turns):
            wide, fill = draw.choice((1, 1, 2, 3)), draw.choice((1, 2, 3, 8))
            entries = some_entries(draw.randint(0, 14), draw)
            if draw.random() < 0.3:
                entries = [(4 * at + 3, draw.choice(WORDS)) for at in range(draw.randint(1, 14))]
            keeper, things = kept(wide, fill, entries), dict(entries)
            kind = draw.choice(("put", "put", "lay", "drop"))
            if kind == "put" or not things:
                key = draw.choice([key for key in list(range(16)) + edge_keys()[-9:] if key not in things])
            else:
                key = draw.choice(sorted(things))
            if kind == "drop" and key in things:
                keeper.drop(key)
                behind = None
            else:
                behind = "behind"
                keeper.put(key, behind)
            yield keeper, things, key, behind

    def sees(self, keeper, things, key, behind):
        """Each other key is found with its thing, no other is; tells what the change's own key is found with."""
        asked = sorted(set(things) | set(range(20)) | {key, END - 1, 2 ** 59})
        told = find_all(keeper, asked)
        own = told.pop(key, None)
        self.assertEqual(told, {other: things[other] for other in things if other != key})
        self.assertIn(own, (things.get(key), behind))
        yard = keeper.yard()
        for other in asked:
            self.assertEqual(found(yard, other), plain_found(yard, other))
        self.assertEqual(keeper.entries(), self.entries_of(plain_mended(yard)))
        self.assertEqual(dict(keeper.entries()), {**told, **({} if own is None else {key: own})})
        return own

    def entries_of(self, yard):
        return sorted(entry for rows in yard[2] for row in rows for entry in row)

    def behind_mending(self, keeper, things, key, own):
        """Mended and run, the keeper is settled and has just what was found."""
        self.mend(keeper)
        while keeper.left():
            self.assertEqual(self.sees(keeper, things, key, own), own)
            keeper.step()
        left = {other: things[other] for other in things if other != key}
        self.whole(keeper, left if own is None else {**left, key: own})

    def test_behind_each_number_of_steps(self):
        for keeper, things, key, behind in self.changes(7, 200):
            seen = [self.sees(keeper, things, key, behind)]
            while keeper.left():
                stopped = deepcopy(keeper)
                many = stopped.stop()
                self.assertEqual(many, len(keeper.left()))
                own = self.sees(stopped, things, key, behind)
                self.behind_mending(stopped, things, key, own)
                keeper.step()
                seen.append(self.sees(keeper, things, key, behind))
            ahead = seen.count(things.get(key))
            self.assertEqual(seen, [things.get(key)] * ahead + [behind] * (len(seen) - ahead))
            self.assertEqual(seen[-1], behind)
            self.assertIs(keeper.settled(), True)

    def test_stopped_amid_the_mending_and_mended_again(self):
        for keeper, things, key, behind in self.changes(70, 60):
            while keeper.left():
                stopped = deepcopy(keeper)
                stopped.stop()
                own = self.sees(stopped, things, key, behind)
                stopped.mend()
                while stopped.left():
                    again = deepcopy(stopped)
                    again.stop()
                    self.assertEqual(self.sees(again, things, key, behind), own)
                    self.behind_mending(again, things, key, own)
                    stopped.step()
                keeper.step()

    def test_many_changes_stopped_and_mended_one_after_another(self):
        draw = Random(71)
        for turn in range(12):
            keeper, things = Keeper(draw.choice((1, 2, 3)), draw.choice((1, 2, 3))), {}
            for at in range(40):
                key = draw.choice(range(24))
                if key in things and draw.random() < 0.5:
                    keeper.drop(key)
                else:
                    keeper.put(key, draw.choice(WORDS))
                for step in range(draw.randint(0, len(keeper.left()))):
                    keeper.step()
                keeper.stop()
                things = find_all(keeper, range(30))
                while not keeper.settled():
                    self.mend(keeper)
                    for step in range(draw.randint(0, len(keeper.left()))):
                        keeper.step()
                    keeper.stop()
                    self.assertEqual(find_all(keeper, range(30)), things)
                self.whole(keeper, things)

    def test_mend_of_a_settled_keeper(self):
        draw = Random(72)
        for many in (0, 1, 9, 40):
            entries = some_entries(many, draw)
            keeper = kept(2, 3, entries)
            self.assertEqual((keeper.mend(), keeper.left(), keeper.settled()), (0, [], True))
            self.whole(keeper, dict(entries))


class SameTable(KeeperTest):
    def test_other_orders_and_detours(self):
        draw = Random(6)
        for wide, fill in ((1, 1), (2, 3), (8, 8), (1, 8)):
            for many in (0, 1, 5, 20, 30):
                entries = some_entries(many, draw)
                for order in (entries, entries[::-1], sorted(entries)):
                    self.whole(kept(wide, fill, order), dict(entries))
                others = [(key, "other") for key, thing in some_entries(30, draw) if key not in dict(entries)]
                keeper = kept(wide, fill, others + entries)
                for key, thing in draw.sample(others, len(others)):
                    keeper.drop(key)
                    keeper.run()
                self.whole(keeper, dict(entries))


class Find(KeeperTest):
    def test_keys_that_stand(self):
        keeper = kept(2, 8, [(1, "a"), (3, "b"), (5, "c"), (7, "d"), (9, "e")])
        for key, answer in ((1, ("a", 1)), (3, ("b", 1)), (5, ("c", 2)), (7, ("d", 2)), (9, ("e", 3))):
            for again in (False, True):
                told = keeper.find(key)
                self.assertEqual(told, answer)
                self.assertEqual([type(part) for part in (told,) + told], [tuple, str, int])

    def test_amid_a_change(self):
        keeper = kept(1, 8, [(1, "a"), (3, "b"), (5, "c")])
        keeper.put(2, "z")
        self.assertEqual([keeper.find(key) for key in (1, 3, 5)], [("a", 1), ("b", 2), ("c", 3)])
        self.refused(Lacking, "key", 2, keeper.find, 2)
        keeper.step()
        self.assertEqual(keeper.yard(), (1, 1, [[[(1, "a")], [(3, "b")], [(5, "c")], [(5, "c")]]]))
        self.assertEqual([keeper.find(key) for key in (1, 3, 5)], [("a", 1), ("b", 2), ("c", 3)])
        keeper.step()
        self.assertEqual([keeper.find(key) for key in (1, 3, 5)], [("a", 1), ("b", 2), ("c", 4)])
        self.refused(Lacking, "key", 2, keeper.find, 2)
        self.assertEqual(keeper.entries(), [(1, "a"), (3, "b"), (5, "c")])
        keeper.step()
        self.assertEqual(keeper.find(2), ("z", 2))
        self.assertEqual(keeper.left(), [])

    def test_asking_changes_nothing(self):
        keeper = kept(1, 2, [(1, "a"), (3, "b"), (5, "c"), (7, "d")])
        keeper.put(0, "z")
        while True:
            seen = all_of(keeper)
            find_all(keeper, range(12))
            self.assertEqual(all_of(keeper), seen)
            if keeper.step() is None:
                break


class Own(KeeperTest):
    def spoil(self, keeper):
        """Changes all lists that the keeper tells."""
        for step in keeper.left():
            if step[0] == "row":
                step[3].append((77, "spoilt"))
                step[3].reverse()
        keeper.left().clear()
        keeper.left().append(None)
        keeper.entries().clear()
        yard = keeper.yard()
        for rows in yard[2]:
            for row in rows:
                row.append((78, "spoilt"))
            rows.append([(79, "spoilt")])
        yard[2].clear()

    def test_told_lists_are_the_askers_own(self):
        keeper = kept(1, 2, [(1, "a"), (3, "b"), (5, "c"), (7, "d")])
        keeper.put(0, "z")
        things = {1: "a", 3: "b", 5: "c", 7: "d", 0: "z"}
        while keeper.left():
            seen = all_of(keeper)
            self.spoil(keeper)
            self.assertEqual(all_of(keeper), seen)
            keeper.step()
        self.spoil(keeper)
        self.whole(keeper, things)

    def test_told_steps_are_the_askers_own(self):
        keeper = kept(1, 2, [(1, "a"), (3, "b"), (5, "c"), (7, "d")])
        keeper.put(0, "z")
        told = keeper.step()
        while told is not None:
            seen = all_of(keeper)
            if told[0] == "row":
                told[3].append((77, "spoilt"))
            self.assertEqual(all_of(keeper), seen)
            told = keeper.step()
        self.whole(keeper, {1: "a", 3: "b", 5: "c", 7: "d", 0: "z"})

    def test_what_was_told_does_not_change_later(self):
        keeper = kept(1, 2, [(1, "a"), (3, "b"), (5, "c")])
        keeper.put(0, "z")
        yard, left, entries = keeper.yard(), keeper.left(), keeper.entries()
        seen = deepcopy((yard, left, entries))
        keeper.run()
        keeper.drop(1)
        keeper.step()
        self.assertEqual((yard, left, entries), seen)

    def test_keepers_know_nothing_of_one_another(self):
        one, other = Keeper(1, 1), Keeper(1, 1)
        one.put(5, "a")
        self.assertEqual((other.left(), other.settled(), other.yard()), ([], True, (1, 1, [[[]]])))
        one.run()
        self.assertEqual((other.entries(), one.entries()), ([], [(5, "a")]))


if __name__ == "__main__":
    unittest.main()
