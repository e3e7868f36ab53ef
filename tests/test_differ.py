"""Promise [9], and [2] as far as it speaks of what two documents differ by."""

import itertools
import random
import unittest

from boughback.deeds import Cut, Put, Set
from boughback.differ import differ
from boughback.rows import row_done, row_told
from samples import great_doc, some_doc

GREAT = 10 ** 60 - 1


def small_docs():
    """All documents over four paths beside the root's, with the numbers 0 and 1."""
    paths = [("a",), ("ab",), ("a", "a"), ("ab", "b")]
    for numbers in itertools.product((None, 0, 1), repeat=len(paths)):
        doc = {path: number for path, number in zip(paths, numbers) if number is not None}
        doc = {(): 0, **doc}
        if all(path[:-1] in doc for path in doc):
            yield doc


def neighbours(doc, docs):
    """The places in the list of those documents to which one Put, Cut or Set leads."""
    for place, other in enumerate(docs):
        unlike = [path for path in {**doc, **other} if doc.get(path) != other.get(path)]
        if len(unlike) == 1:
            yield place


def fewest(start, docs):
    """The least number of Puts, Cuts and Sets from the document at that place to each one, by a walk over all."""
    steps = {start: 0}
    edge = [start]
    while edge:
        further = []
        for place in edge:
            for reached in neighbours(docs[place], docs):
                if reached not in steps:
                    steps[reached] = steps[place] + 1
                    further.append(reached)
        edge = further
    return steps


class Differ(unittest.TestCase):
    def assert_differ(self, one, other, told):
        kept = list(one.items()), list(other.items())
        row = differ(one, other)
        self.assertIs(type(row), list)
        self.assertEqual(row_told(row), told)
        self.assertEqual((list(one.items()), list(other.items())), kept)
        self.assertEqual(row_done(one, row), other)

    def test_alike(self):
        for doc in ({(): 0}, {(): -GREAT}, {(): 0, ("a",): 1, ("a", "b"): 2}):
            self.assert_differ(doc, doc, [])
            self.assert_differ(doc, dict(reversed(doc.items())), [])

    def test_numbers_that_are_made_anew_are_alike(self):
        for number in (GREAT, -GREAT):
            self.assert_differ({(): number}, {(): int(str(number))}, [])
            self.assert_differ({(): number}, {(): -number}, [("set", (), number, -number)])

    def test_only_cuts_in_the_turned_order(self):
        one = {(): 0, ("a",): 1, ("a", "b"): 2, ("a", "b", "c"): 3, ("a", "d"): 4, ("c",): 5, ("b",): 6}
        self.assert_differ(one, {(): 0}, [("cut", ("c",), 5), ("cut", ("b",), 6), ("cut", ("a", "d"), 4),
                                          ("cut", ("a", "b", "c"), 3), ("cut", ("a", "b"), 2), ("cut", ("a",), 1)])

    def test_only_puts_sorted(self):
        other = {(): 0, ("c",): 5, ("b",): 6, ("a",): 1, ("a", "d"): 4, ("a", "b"): 2, ("a", "b", "c"): 3}
        self.assert_differ({(): 0}, other, [("put", ("a",), 1), ("put", ("a", "b"), 2), ("put", ("a", "b", "c"), 3),
                                            ("put", ("a", "d"), 4), ("put", ("b",), 6), ("put", ("c",), 5)])

    def test_only_sets_sorted(self):
        one = {(): 0, ("b",): 1, ("a",): 2, ("a", "c"): 3, ("d",): 4}
        other = {(): 1, ("d",): 4, ("a",): -2, ("b",): 0, ("a", "c"): 5}
        self.assert_differ(one, other, [("set", (), 0, 1), ("set", ("a",), 2, -2), ("set", ("a", "c"), 3, 5),
                                        ("set", ("b",), 1, 0)])

    def test_all_three(self):
        one = {(): 0, ("a",): 1, ("a", "x"): 2, ("a", "y"): 3, ("c",): 4}
        other = {("c", "z"): 9, ("c",): 5, ("b", "q"): 8, ("b",): 7, ("a",): 1, (): 6}
        self.assert_differ(one, other, [("cut", ("a", "y"), 3), ("cut", ("a", "x"), 2),
                                        ("put", ("b",), 7), ("put", ("b", "q"), 8), ("put", ("c", "z"), 9),
                                        ("set", (), 0, 6), ("set", ("c",), 4, 5)])
        self.assert_differ(other, one, [("cut", ("c", "z"), 9), ("cut", ("b", "q"), 8), ("cut", ("b",), 7),
                                        ("put", ("a", "x"), 2), ("put", ("a", "y"), 3),
                                        ("set", (), 6, 0), ("set", ("c",), 5, 4)])

    def test_names_of_which_one_begins_another(self):
        one = {(): 0, ("a",): 1, ("ab",): 2, ("ab", "a"): 3}
        other = {(): 0, ("a",): 1, ("a", "b"): 2, ("aba",): 3}
        self.assert_differ(one, other, [("cut", ("ab", "a"), 3), ("cut", ("ab",), 2), ("put", ("a", "b"), 2),
                                        ("put", ("aba",), 3)])
        self.assert_differ({(): 0}, {(): 0, ("ab",): 1, ("a",): 2, ("a", "z"): 3, ("abc",): 4},
                           [("put", ("a",), 2), ("put", ("a", "z"), 3), ("put", ("ab",), 1), ("put", ("abc",), 4)])
        self.assert_differ({(): 0, ("ab",): 1, ("a",): 2, ("a", "z"): 3, ("abc",): 4}, {(): 0},
                           [("cut", ("abc",), 4), ("cut", ("ab",), 1), ("cut", ("a", "z"), 3), ("cut", ("a",), 2)])

    def test_what_was_moved_is_cut_and_put(self):
        self.assert_differ({(): 0, ("a",): 1}, {(): 0, ("b",): 1}, [("cut", ("a",), 1), ("put", ("b",), 1)])

    def test_no_row_has_fewer_deeds(self):
        docs = list(small_docs())
        self.assertEqual(len(docs), 49)
        for start, one in enumerate(docs):
            steps = fewest(start, docs)
            for place, other in enumerate(docs):
                self.assertEqual(len(differ(one, other)), steps[place], (one, other))

    def test_each_two_of_many(self):
        source = random.Random(12)
        for _ in range(300):
            one, other = (some_doc(source, source.randrange(1, 12)) for _ in range(2))
            gone = sorted((path for path in one if path not in other), reverse=True)
            come = sorted(path for path in other if path not in one)
            both = sorted(path for path in one if path in other and one[path] != other[path])
            self.assert_differ(one, other, [("cut", path, one[path]) for path in gone]
                               + [("put", path, other[path]) for path in come]
                               + [("set", path, one[path], other[path]) for path in both])


class OwnersAndBounds(unittest.TestCase):
    def test_a_changed_answer_changes_no_later_one(self):
        one, other = {(): 0, ("a",): 1}, {(): 1, ("b",): 1}
        first = differ(one, other)
        told = row_told(first)
        first.clear()
        self.assertEqual(row_told(differ(one, other)), told)

    def test_what_is_changed_later_changes_no_answer(self):
        one, other = {(): 0, ("a",): 1}, {(): 1, ("b",): 1}
        row = differ(one, other)
        one.clear()
        other[()] = 7
        self.assertEqual(row_told(row), [("cut", ("a",), 1), ("put", ("b",), 1), ("set", (), 0, 1)])

    def test_six_hundred_deeds(self):
        one = great_doc()
        other = {(): 7}
        for path in sorted(one)[1:]:
            other[("z",) + path[1:] if path[0] == "a" else (path[0] + "z",)] = 3
        self.assertEqual((len(one), len(other)), (300, 300))
        row = differ(one, other)
        self.assertEqual([sum(isinstance(deed, kind) for deed in row) for kind in (Cut, Put, Set)], [299, 299, 1])
        self.assertEqual(row_done(one, row), other)


if __name__ == "__main__":
    unittest.main()
