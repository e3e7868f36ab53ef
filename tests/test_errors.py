"""boughback.errors: each refusal, what it is made of, and under what it stands."""

import copy
import unittest

from boughback.errors import (BoughError, Clash, Empty, Hangs, NoDeed, NoRoom, NoStand, NoText, NoWord,
                              Twice, Unfit)

WITH_AT = (Unfit, NoText)
WITH_PART = (Clash, Hangs)
BARE = (NoStand, NoDeed, Empty, NoWord, Twice, NoRoom)
ALL = WITH_AT + WITH_PART + BARE


def make(kind):
    if kind in WITH_AT:
        return kind(3)
    if kind in WITH_PART:
        return kind(3, ("a", "b"))
    return kind()


class Refusals(unittest.TestCase):
    def test_base_stands_under_value_error(self):
        self.assertTrue(issubclass(BoughError, ValueError))

    def test_each_is_taken_by_its_bases(self):
        for kind in ALL:
            for base in (kind, BoughError, ValueError):
                with self.subTest(kind=kind.__name__, base=base.__name__):
                    with self.assertRaises(base):
                        raise make(kind)

    def test_each_is_taken_by_no_other_name(self):
        self.assertEqual(len(set(ALL)), 10)
        for kind in ALL:
            for other in ALL:
                if other is not kind:
                    with self.subTest(kind=kind.__name__, other=other.__name__):
                        self.assertNotIsInstance(make(kind), other)

    def test_each_stands_right_under_the_base(self):
        for kind in ALL:
            self.assertEqual(kind.__bases__, (BoughError,))

    def test_at(self):
        for kind in WITH_AT:
            for at in (0, 1, 59, 10 ** 59):
                self.assertEqual(kind(at).at, at)

    def test_at_then_part(self):
        for kind in WITH_PART:
            for at, part in ((0, ()), (7, ("a",)), (59, ("a", "b", "c"))):
                error = kind(at, part)
                self.assertEqual((error.at, error.part), (at, part))

    def test_values_belong_to_each_object(self):
        first, second = Clash(1, ("a",)), Clash(2, ("b",))
        self.assertEqual((first.at, first.part, second.at, second.part), (1, ("a",), 2, ("b",)))

    def test_values_are_not_left_out(self):
        for kind in WITH_AT + WITH_PART:
            with self.assertRaises(TypeError):
                kind()
        for kind in WITH_PART:
            with self.assertRaises(TypeError):
                kind(0)

    def test_bare_ones_may_bear_words(self):
        for kind in BARE:
            self.assertIsInstance(kind("words"), BoughError)

    def test_a_copy_bears_the_same_values(self):
        self.assertEqual(copy.copy(Unfit(4)).at, 4)
        again = copy.copy(Hangs(4, ("a",)))
        self.assertEqual((again.at, again.part), (4, ("a",)))


if __name__ == "__main__":
    unittest.main()
