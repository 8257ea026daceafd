"""Tests of the refusals [5]."""

import unittest
from copy import deepcopy

from tailrooms.errors import (
    Busy, Full, Lacking, NoKey, NoLine, NoMark, NoName, NoRoom, NoSize, NoText, NoThing, TailError, Taken,
)
from things import END, FAR, whatever

BEARING = (
    (NoSize, "thing"), (NoKey, "key"), (NoThing, "thing"), (NoRoom, "number"), (Lacking, "key"), (Full, "many"),
    (NoMark, "mark"), (NoName, "name"), (Taken, "name"),
)
BARE = (Busy, NoText, NoLine)
ALL = BARE + tuple(refusal for refusal, name in BEARING)


def made(refusal):
    return refusal() if refusal in BARE else refusal(5)


class Standing(unittest.TestCase):
    def test_there_are_twelve(self):
        self.assertEqual(len(set(ALL)), 12)

    def test_tail_error_is_right_under_value_error(self):
        self.assertEqual(TailError.__bases__, (ValueError,))

    def test_each_is_right_under_tail_error(self):
        for refusal in ALL:
            self.assertEqual(refusal.__bases__, (TailError,))

    def test_none_stands_under_another(self):
        for refusal in ALL:
            for other in ALL:
                self.assertEqual(issubclass(refusal, other), refusal == other, (refusal, other))

    def test_tail_error_is_none_of_them(self):
        for refusal in ALL:
            self.assertFalse(issubclass(TailError, refusal))


class Bearing(unittest.TestCase):
    def things(self):
        return whatever() + [0, 1, -1, 5, 64, END, -END, FAR, -FAR, "abc", "a", "what is this", "x\ty\n"]

    def test_just_what_it_was_made_of(self):
        for refusal, name in BEARING:
            for thing in self.things():
                self.assertIs(getattr(refusal(thing), name), thing)

    def test_a_second_one_behind_it_changes_nothing(self):
        for refusal, name in BEARING:
            for other, other_name in BEARING:
                for thing in ([1], {"a": 1}, (1, 2), "abc", True, 1, None):
                    first = refusal(thing)
                    second = other("zz")
                    self.assertIs(getattr(first, name), thing)
                    self.assertEqual(getattr(second, other_name), "zz")

    def test_what_it_is_made_of_is_not_changed(self):
        for refusal, name in BEARING:
            for thing in ([1, [2]], {"a": [1]}, (1, [2])):
                ahead = deepcopy(thing)
                self.assertEqual(getattr(refusal(thing), name), ahead)
                self.assertEqual(thing, ahead)

    def test_it_bears_no_other_value(self):
        for refusal, name in BEARING:
            self.assertEqual(list(vars(refusal(5))), [name])
        for refusal in BARE:
            self.assertEqual(list(vars(refusal())), [])


class Raised(unittest.TestCase):
    def test_taken_by_its_own_name(self):
        for refusal in ALL:
            error = made(refusal)
            try:
                raise error
            except refusal as taken:
                self.assertIs(taken, error)

    def test_taken_by_tail_error_and_by_value_error(self):
        for refusal in ALL:
            for base in (TailError, ValueError):
                error = made(refusal)
                try:
                    raise error
                except base as taken:
                    self.assertIs(taken, error)

    def test_not_taken_by_another_name(self):
        for refusal in ALL:
            others = tuple(other for other in ALL if other != refusal)
            with self.assertRaises(refusal):
                try:
                    raise made(refusal)
                except others:
                    pass

    def test_the_value_is_there_when_it_is_taken(self):
        for refusal, name in BEARING:
            for thing in ([1], None, True, "abc", -1):
                with self.assertRaises(TailError) as taken:
                    raise refusal(thing)
                self.assertIs(getattr(taken.exception, name), thing)

    def test_its_words_can_be_asked(self):
        for refusal, name in BEARING:
            for thing in ([1], None, (1, 2), {}, "", -1):
                self.assertIsInstance(str(refusal(thing)), str)


if __name__ == "__main__":
    unittest.main()
