"""Tests of the kinds [2]."""

import unittest
from copy import deepcopy

from tailrooms.kinds import is_key, is_name, is_size, is_whole
from things import END, FAR, whatever

KINDS = (is_whole, is_key, is_name, is_size)


class KindTest(unittest.TestCase):
    """What all tests of kinds ask with: the answer is True or False itself."""

    def told(self, kind, thing, answer):
        self.assertIs(kind(thing), answer, (kind, thing))
        self.assertIs(kind(thing), answer, (kind, thing, "asked again"))


class Whatever(KindTest):
    def test_things_of_other_kinds_are_none_of_the_four(self):
        for kind in KINDS:
            for thing in whatever():
                self.told(kind, thing, False)

    def test_truths_are_no_numbers(self):
        for kind in KINDS:
            self.told(kind, True, False)
            self.told(kind, False, False)

    def test_nothing_is_changed(self):
        for kind in KINDS:
            for thing in ([1, [2]], {"a": [1]}, ["a"], (1, [2])):
                ahead = deepcopy(thing)
                kind(thing)
                self.assertEqual(thing, ahead)


class Whole(KindTest):
    def test_ints(self):
        for thing in (0, 1, -1, 2, 8, 9, 60, END - 1, END, END + 1, -END, FAR, -FAR):
            self.told(is_whole, thing, True)

    def test_texts_of_figures(self):
        for thing in ("0", "1", "-1", "12"):
            self.told(is_whole, thing, False)


class Key(KindTest):
    def test_keys(self):
        for thing in (0, 1, 2, 8, 9, 2 ** 31, 2 ** 32, 2 ** 53 + 1, 2 ** 59, END - 2, END - 1):
            self.told(is_key, thing, True)

    def test_below_and_beyond(self):
        for thing in (-1, -2, -END, 1 - END, -FAR, END, END + 1, 2 * END, 2 ** 64, FAR):
            self.told(is_key, thing, False)

    def test_texts(self):
        for thing in ("0", "5", "key", "a"):
            self.told(is_key, thing, False)


class Size(KindTest):
    def test_each(self):
        for thing in range(-20, 40):
            self.told(is_size, thing, thing in (1, 2, 3, 4, 5, 6, 7, 8))

    def test_far(self):
        for thing in (END, -END, END + 1, END + 8, FAR, -FAR, 2 ** 32 + 1, 2 ** 64 + 8):
            self.told(is_size, thing, False)

    def test_texts(self):
        for thing in ("1", "8", "a", "size"):
            self.told(is_size, thing, False)


class Name(KindTest):
    def test_each_letter(self):
        for letter in "abcdefghijklmnopqrstuvwxyz":
            self.told(is_name, letter, True)
            self.told(is_name, letter * 8, True)

    def test_lengths(self):
        for many in range(30):
            self.told(is_name, "a" * many, 1 <= many <= 8)
            self.told(is_name, "qwertyuiopasdfghjklzxcvbnmabcd"[:many], 1 <= many <= 8)

    def test_every_other_sign_at_each_place(self):
        signs = [chr(at) for at in range(32, 127) if not "a" <= chr(at) <= "z"] + ["\t", "\n"]
        self.assertIn("A", signs)
        self.assertIn("Z", signs)
        self.assertIn("0", signs)
        self.assertIn("`", signs)
        self.assertIn("{", signs)
        for sign in signs:
            for many in range(1, 9):
                for at in range(many):
                    self.told(is_name, "b" * at + sign + "y" * (many - at - 1), False)

    def test_what_is_no_text(self):
        for thing in (0, 1, 5, -1, END, ["a"], ["a", "b"], ("a", "b"), {"a": "b"}, b"abc", None, True):
            self.told(is_name, thing, False)


if __name__ == "__main__":
    unittest.main()
