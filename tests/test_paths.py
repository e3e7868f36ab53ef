"""Promise [4]: names, paths, at or below, and a path that is carried."""

import unittest

from boughback.paths import at_or_below, carried, is_name, is_path

SMALL = "abcdefghijklmnopqrstuvwxyz"
SIGNS = [chr(code) for code in range(ord(" "), ord("~") + 1)] + ["\n", "\t", "\r"]
PATHS = [(), ("a",), ("b",), ("ab",), ("a", "a"), ("a", "b"), ("b", "a"), ("ab", "a"), ("a", "b", "a"),
         ("a", "ab", "a"), ("b", "a", "b", "a")]


def as_text(path):
    """Another way to see where a path lies: each name closed by a stroke, so beginnings can't mislead."""
    return "/" + "".join(name + "/" for name in path)


class Names(unittest.TestCase):
    def test_lengths(self):
        self.assertIs(is_name(""), False)
        for length in range(1, 9):
            self.assertIs(is_name("abcdefghijkl"[:length]), True, length)
        for length in (9, 10, 50):
            self.assertIs(is_name("a" * length), False, length)

    def test_each_sign_alone(self):
        for sign in SIGNS:
            self.assertIs(is_name(sign), sign in SMALL, repr(sign))

    def test_first_and_last_letters(self):
        for text in ("a", "z", "az", "za", "zzzzzzzz", "aaaaaaaa"):
            self.assertIs(is_name(text), True, text)

    def test_wrong_sign_at_any_place(self):
        for sign in SIGNS:
            if sign in SMALL:
                continue
            for length in range(0, 8):
                for place in range(length + 1):
                    text = "q" * place + sign + "q" * (length - place)
                    self.assertIs(is_name(text), False, repr(text))

    def test_strokes_and_numbers(self):
        for text in ("a/b", "/", "/a", "a1", "1", "A", "aB", "Ab", "a b", " a", "a ", "a\n", "\na", "a\t", "a_b"):
            self.assertIs(is_name(text), False, repr(text))


class Paths(unittest.TestCase):
    def test_is_path(self):
        for path in PATHS + [("a",) * 40, ("abcdefgh",)]:
            self.assertIs(is_path(path), True, path)
        for thing in (["a"], "a", None, 1, ("A",), ("a", ""), ("a", 1), ("abcdefghi",), (("a",),)):
            self.assertIs(is_path(thing), False, thing)


class AtOrBelow(unittest.TestCase):
    def test_itself(self):
        for path in PATHS:
            self.assertIs(at_or_below(path, path), True)

    def test_root_on_either_side(self):
        for path in PATHS:
            self.assertIs(at_or_below(path, ()), True)
            self.assertIs(at_or_below((), path), path == ())

    def test_a_name_that_begins_like_another(self):
        self.assertIs(at_or_below(("ab",), ("a",)), False)
        self.assertIs(at_or_below(("a",), ("ab",)), False)
        self.assertIs(at_or_below(("ab", "c"), ("a",)), False)
        self.assertIs(at_or_below(("x", "ab"), ("x", "a")), False)

    def test_deeper(self):
        self.assertIs(at_or_below(("a", "b"), ("a",)), True)
        self.assertIs(at_or_below(("a", "b", "c", "d"), ("a", "b")), True)
        self.assertIs(at_or_below(("a",), ("a", "b")), False)
        self.assertIs(at_or_below(("b", "a"), ("a",)), False)
        self.assertIs(at_or_below(("a", "c", "b"), ("a", "b")), False)

    def test_each_two(self):
        for path in PATHS:
            for other in PATHS:
                self.assertIs(at_or_below(path, other), as_text(path).startswith(as_text(other)), (path, other))

    def test_forty_names(self):
        deep = ("a",) * 39
        self.assertIs(at_or_below(deep + ("b",), deep), True)
        self.assertIs(at_or_below(deep + ("b",), deep + ("c",)), False)


class Carried(unittest.TestCase):
    def test_the_old_path_itself(self):
        self.assertEqual(carried(("a",), ("a",), ("b", "c")), ("b", "c"))

    def test_below_the_old_path(self):
        self.assertEqual(carried(("a", "x", "y"), ("a",), ("b", "c")), ("b", "c", "x", "y"))
        self.assertEqual(carried(("a", "b", "x"), ("a", "b"), ("c",)), ("c", "x"))

    def test_names_of_the_old_one_further_down_stay(self):
        self.assertEqual(carried(("a", "a", "b", "a"), ("a",), ("c",)), ("c", "a", "b", "a"))

    def test_elsewhere(self):
        for path in ((), ("ab",), ("ab", "a"), ("b",), ("b", "a"), ("x", "a", "b")):
            self.assertEqual(carried(path, ("a",), ("c",)), path)
        self.assertEqual(carried(("a",), ("a", "b"), ("c",)), ("a",))

    def test_root_on_each_side(self):
        self.assertEqual(carried((), (), ("a", "b")), ("a", "b"))
        self.assertEqual(carried(("x",), (), ("a", "b")), ("a", "b", "x"))
        self.assertEqual(carried(("a", "x"), ("a",), ()), ("x",))
        self.assertEqual(carried(("a",), ("a",), ()), ())
        self.assertEqual(carried((), ("a",), ("b",)), ())
        self.assertEqual(carried(("x", "y"), (), ()), ("x", "y"))

    def test_to_where_it_was(self):
        for path in PATHS:
            for old in PATHS:
                self.assertEqual(carried(path, old, old), path)

    def test_goal_that_lies_below_the_old_one(self):
        self.assertEqual(carried(("a", "x"), ("a",), ("a", "a")), ("a", "a", "x"))

    def test_each_three(self):
        for path in PATHS:
            for old in PATHS:
                for new in PATHS:
                    text = as_text(path)
                    if text.startswith(as_text(old)):
                        text = as_text(new) + text[len(as_text(old)):]
                    self.assertEqual(as_text(carried(path, old, new)), text, (path, old, new))


if __name__ == "__main__":
    unittest.main()
