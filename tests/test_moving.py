"""Promises [13], [14], [15] and [17], what [3] says of two deeds, and [2] as far as it speaks of these."""

import itertools
import random
import unittest

from boughback.deeds import Cut, Move, Put, Set, deed_of
from boughback.errors import BoughError, Clash
from boughback.moving import along, behind, clash, moved
from boughback.rows import row_done, row_told
from samples import all_deeds, fitting_deed, fitting_row, great_doc, small_docs, some_doc

DOC = {(): 0, ("a",): 1, ("a", "b"): 2, ("a", "b", "c"): 3, ("ab",): 4, ("b",): 5, ("b", "a"): 6, ("c",): 7}
# Where each path is once ("a", "b") has gone to ("c", "d"): at, below, beside, above, and names that begin alike.
CARRIED = ((("a", "b"), ("c", "d")), (("a", "b", "c"), ("c", "d", "c")),
           (("a", "b", "c", "x"), ("c", "d", "c", "x")), (("a", "b", "a", "b"), ("c", "d", "a", "b")),
           (("a", "bc"), ("a", "bc")), (("a", "bc", "b"), ("a", "bc", "b")), (("ab",), ("ab",)), (("a",), ("a",)),
           (("a", "a"), ("a", "a")), (("b", "a"), ("b", "a")), (("b",), ("b",)), (("c",), ("c",)),
           (("c", "x"), ("c", "x")), ((), ()))
OTHER = Move(("a", "b"), ("c", "d"))


class Behind(unittest.TestCase):
    def assert_behind(self, deed, other, wanted):
        kept = deed.told(), other.told()
        found = behind(deed, other)
        self.assertEqual(found.told(), wanted, kept)
        self.assertIs(type(found), type(deed))
        self.assertEqual((deed.told(), other.told()), kept)

    def test_behind_a_put_a_cut_and_a_set_each_stays(self):
        deeds = [deed_of(told) for told in (
            ("put", ("a", "x"), 1), ("cut", ("c",), 7), ("cut", ("a", "b", "c"), 3), ("set", ("a", "b"), 2, 1),
            ("set", (), 0, 1), ("move", ("a", "b"), ("c", "d")), ("move", ("c",), ("b", "c")))]
        others = (Put(("a", "x"), 2), Put(("c", "d"), 0), Put(("a", "b", "d"), 0), Cut(("c",), 7), Cut(("b", "a"), 6),
                  Cut(("a", "b", "c"), 3), Set(("a", "b"), 2, 9), Set((), 0, 5), Set(("c",), 7, 8))
        for deed, other in itertools.product(deeds, others):
            self.assert_behind(deed, other, deed.told())

    def test_a_put_behind_a_move(self):
        for path, wanted in CARRIED[1:]:
            self.assert_behind(Put(path, 3), OTHER, ("put", wanted, 3))

    def test_a_cut_behind_a_move(self):
        for path, wanted in CARRIED:
            self.assert_behind(Cut(path, -3), OTHER, ("cut", wanted, -3))

    def test_a_set_behind_a_move(self):
        for path, wanted in CARRIED:
            self.assert_behind(Set(path, 3, 4), OTHER, ("set", wanted, 3, 4))

    def test_a_move_behind_a_move(self):
        for (path, wanted), (goal, after) in itertools.product(CARRIED, CARRIED):
            self.assert_behind(Move(path, goal), OTHER, ("move", wanted, after))

    def test_behind_moves_up_down_and_beside(self):
        self.assert_behind(Set(("a", "b", "c"), 3, 1), Move(("a", "b"), ("d",)), ("set", ("d", "c"), 3, 1))
        self.assert_behind(Set(("a", "b", "c"), 3, 1), Move(("a",), ("d",)), ("set", ("d", "b", "c"), 3, 1))
        self.assert_behind(Set(("a", "b", "c"), 3, 1), Move(("a",), ("b", "a", "x")),
                           ("set", ("b", "a", "x", "b", "c"), 3, 1))
        self.assert_behind(Set(("a", "b"), 2, 1), Move(("a", "b", "c"), ("a", "x")), ("set", ("a", "b"), 2, 1))
        self.assert_behind(Put(("ab", "x"), 2), Move(("a",), ("d",)), ("put", ("ab", "x"), 2))
        self.assert_behind(Put(("b", "a", "x"), 2), Move(("a",), ("d",)), ("put", ("b", "a", "x"), 2))
        self.assert_behind(Move(("c",), ("a", "b", "d")), Move(("a", "b"), ("b", "b")),
                           ("move", ("c",), ("b", "b", "d")))
        self.assert_behind(Move(("a", "b", "c"), ("d",)), Move(("a",), ("c", "a")),
                           ("move", ("c", "a", "b", "c"), ("d",)))
        self.assert_behind(Move(("a", "b", "c"), ("a", "c")), Move(("a",), ("d",)),
                           ("move", ("d", "b", "c"), ("d", "c")))

    def test_of_two_that_clash(self):
        self.assert_behind(Put(("x",), 1), Put(("x",), 2), ("put", ("x",), 1))
        self.assert_behind(Put(("x",), 1), Move(("a",), ("x",)), ("put", ("x",), 1))
        self.assert_behind(Move(("a",), ("x",)), Put(("x",), 1), ("move", ("a",), ("x",)))
        self.assert_behind(Put(("c", "x"), 1), Cut(("c",), 7), ("put", ("c", "x"), 1))
        self.assert_behind(Cut(("c",), 7), Put(("c", "x"), 1), ("cut", ("c",), 7))
        self.assert_behind(Cut(("c",), 7), Move(("c",), ("x",)), ("cut", ("x",), 7))
        self.assert_behind(Move(("c",), ("x",)), Cut(("c",), 7), ("move", ("c",), ("x",)))
        self.assert_behind(Cut(("c",), 7), Move(("a",), ("c", "a")), ("cut", ("c",), 7))
        self.assert_behind(Set(("c",), 7, 8), Set(("c",), 7, 9), ("set", ("c",), 7, 8))
        self.assert_behind(Move(("a",), ("x",)), Move(("a",), ("y",)), ("move", ("y",), ("x",)))
        self.assert_behind(Move(("a",), ("x",)), Move(("a",), ("x",)), ("move", ("x",), ("x",)))
        self.assert_behind(Move(("a",), ("x",)), Move(("c",), ("x",)), ("move", ("a",), ("x",)))
        self.assert_behind(Move(("a",), ("b", "x")), Move(("b",), ("a", "y")), ("move", ("a",), ("a", "y", "x")))
        self.assert_behind(Move(("b",), ("a", "y")), Move(("a",), ("b", "x")), ("move", ("b",), ("b", "x", "y")))

    def test_as_the_parts_go(self):
        source = random.Random(20)
        for _ in range(400):
            doc = some_doc(source, source.randrange(2, 9))
            deed, other = fitting_deed(source, doc), fitting_deed(source, doc)
            told = list(deed.told())
            if isinstance(other, Move):
                for place, path in enumerate(told):
                    if isinstance(path, tuple) and path[:len(other.path)] == other.path:
                        told[place] = other.goal + path[len(other.path):]
            self.assert_behind(deed, other, tuple(told))


# Of each case in [14] some pairs that fit DOC, with the part.
CLASHES = (
    # two Puts of one path
    (Put(("x",), 1), Put(("x",), 1), ("x",)),
    (Put(("x",), 1), Put(("x",), 2), ("x",)),
    (Put(("a", "b", "c", "x"), 1), Put(("a", "b", "c", "x"), 2), ("a", "b", "c", "x")),
    # a Put and a Move whose goal is the path
    (Put(("x",), 1), Move(("a",), ("x",)), ("x",)),
    (Put(("c", "x"), 1), Move(("b", "a"), ("c", "x")), ("c", "x")),
    (Put(("a", "x"), 1), Move(("a", "b"), ("a", "x")), ("a", "x")),
    # a Put and a Cut of the path right below which it puts
    (Put(("c", "x"), 1), Cut(("c",), 7), ("c",)),
    (Put(("a", "b", "c", "x"), 1), Cut(("a", "b", "c"), 3), ("a", "b", "c")),
    # a Cut and a Move whose goal lies right below the path that is cut
    (Cut(("c",), 7), Move(("a",), ("c", "a")), ("c",)),
    (Cut(("b", "a"), 6), Move(("c",), ("b", "a", "x")), ("b", "a")),
    (Cut(("a", "b", "c"), 3), Move(("b", "a"), ("a", "b", "c", "a")), ("a", "b", "c")),
    # two Cuts, a Cut and a Set, two Sets, a Cut and a Move of one path
    (Cut(("c",), 7), Cut(("c",), 7), ("c",)),
    (Cut(("b", "a"), 6), Cut(("b", "a"), 6), ("b", "a")),
    (Cut(("c",), 7), Set(("c",), 7, 8), ("c",)),
    (Cut(("a", "b", "c"), 3), Set(("a", "b", "c"), 3, 0), ("a", "b", "c")),
    (Set(("c",), 7, 8), Set(("c",), 7, 8), ("c",)),
    (Set(("a",), 1, 8), Set(("a",), 1, 9), ("a",)),
    (Set((), 0, 1), Set((), 0, 2), ()),
    (Set((), 0, 1), Set((), 0, 1), ()),
    (Cut(("c",), 7), Move(("c",), ("x",)), ("c",)),
    (Cut(("b", "a"), 6), Move(("b", "a"), ("b", "x")), ("b", "a")),
    # two Moves of one path, also to one goal
    (Move(("a",), ("x",)), Move(("a",), ("y",)), ("a",)),
    (Move(("a",), ("x",)), Move(("a",), ("x",)), ("a",)),
    (Move(("b", "a"), ("x",)), Move(("b", "a"), ("c", "x")), ("b", "a")),
    # two Moves to one goal
    (Move(("a",), ("x",)), Move(("c",), ("x",)), ("x",)),
    (Move(("a",), ("x",)), Move(("a", "b"), ("x",)), ("x",)),
    (Move(("a", "b"), ("c", "x")), Move(("b",), ("c", "x")), ("c", "x")),
    (Move(("a", "b", "c"), ("a", "x")), Move(("a", "b"), ("a", "x")), ("a", "x")),
    # two Moves, the goal of each of which lies below the other's path
    (Move(("a",), ("b", "x")), Move(("b",), ("a", "y")), ("a",)),
    (Move(("a",), ("b", "x")), Move(("b",), ("a", "b", "c", "y")), ("a",)),
    (Move(("c",), ("a", "b", "x")), Move(("a", "b"), ("c", "a")), ("a", "b")),
    (Move(("b", "a"), ("a", "b", "c", "x")), Move(("a", "b"), ("b", "a", "x")), ("a", "b")),
    (Move(("ab",), ("b", "x")), Move(("b",), ("ab", "x")), ("ab",)),
    (Move(("ab",), ("a", "x")), Move(("a",), ("ab", "x")), ("a",)),
    (Move(("ab",), ("a", "b", "x")), Move(("a", "b"), ("ab", "x")), ("a", "b")),
)

# Nearly such cases, all at peace.
PEACE = (
    # Puts side by side, one of whose names begins the other's, of one last name, and with one number
    (Put(("x",), 1), Put(("xy",), 1)), (Put(("x",), 1), Put(("a", "x"), 1)), (Put(("a", "x"), 1), Put(("a", "y"), 1)),
    # a Put and a Move of what it puts below, of what it stands beside, and to a goal beside
    (Put(("a", "x"), 1), Move(("a",), ("x",))), (Put(("x",), 1), Move(("a",), ("xy",))),
    (Put(("x",), 1), Move(("a",), ("c", "x"))), (Put(("a", "b", "x"), 1), Move(("a",), ("b", "x"))),
    (Put(("a", "x"), 1), Move(("a", "b"), ("a", "y"))), (Put(("c", "x"), 1), Move(("c",), ("x",))),
    # a Put and a Cut of a path beside, or farther above than right above, or of which the name begins alike
    (Put(("ab", "x"), 1), Cut(("c",), 7)), (Put(("a", "b", "x"), 1), Cut(("a", "b", "c"), 3)),
    (Put(("x",), 7), Cut(("c",), 7)), (Put(("a", "x"), 1), Cut(("ab",), 4)), (Put(("b", "x"), 1), Cut(("b", "a"), 6)),
    # a Put and a Set, of what it puts below too
    (Put(("c", "x"), 1), Set(("c",), 7, 1)), (Put(("x",), 1), Set((), 0, 1)),
    # a Cut and a Move to beside it, or of what lies above it
    (Cut(("c",), 7), Move(("a",), ("x",))), (Cut(("c",), 7), Move(("a",), ("ab", "c"))),
    (Cut(("b", "a"), 6), Move(("b",), ("x",))), (Cut(("b", "a"), 6), Move(("c",), ("b", "c"))),
    (Cut(("b", "a"), 6), Move(("b",), ("c", "b"))), (Cut(("a", "b", "c"), 3), Move(("a", "b"), ("x",))),
    (Cut(("a", "b", "c"), 3), Move(("c",), ("a", "b", "x"))), (Cut(("ab",), 4), Move(("a",), ("x",))),
    # Cuts and Sets of unlike paths, with one number too
    (Cut(("c",), 7), Cut(("ab",), 4)), (Cut(("c",), 7), Cut(("a", "b", "c"), 3)), (Cut(("c",), 7), Set(("ab",), 4, 7)),
    (Cut(("b", "a"), 6), Set(("b",), 5, 6)), (Cut(("c",), 7), Set((), 0, 7)), (Set(("a",), 1, 9), Set(("ab",), 4, 9)),
    (Set((), 0, 1), Set(("a",), 1, 0)),
    # a Set and a Move of one path, of what lies above and below, and to beside
    (Set(("a",), 1, 2), Move(("a",), ("x",))), (Set(("a", "b"), 2, 1), Move(("a",), ("x",))),
    (Set(("a",), 1, 2), Move(("a", "b"), ("x",))), (Set(("a",), 1, 2), Move(("c",), ("a", "x"))),
    (Set((), 0, 1), Move(("a",), ("x",))),
    # Moves of paths of which one lies below the other, also both within what is moved
    (Move(("a",), ("x",)), Move(("a", "b"), ("y",))), (Move(("a",), ("x",)), Move(("a", "b"), ("a", "x"))),
    (Move(("a",), ("x",)), Move(("ab",), ("xy",))), (Move(("a", "b"), ("x",)), Move(("a", "b", "c"), ("a", "x"))),
    # Moves of which only one goes below the other one's path
    (Move(("a",), ("b", "x")), Move(("b",), ("x",))), (Move(("a",), ("b", "x")), Move(("b",), ("c", "x"))),
    (Move(("a",), ("b", "x")), Move(("b",), ("ab", "x"))), (Move(("ab",), ("b", "x")), Move(("b",), ("a", "x"))),
    (Move(("a", "b"), ("b", "x")), Move(("b",), ("a", "x"))),
    # Moves whose goals have one last name
    (Move(("a",), ("b", "x")), Move(("c",), ("x",))), (Move(("a",), ("b", "x")), Move(("c",), ("b", "a", "x"))),
)


class ClashCase(unittest.TestCase):
    def assert_clash(self, deed, other, part):
        for one, two in ((deed, other), (other, deed)):
            kept = one.told(), two.told()
            self.assertEqual(clash(one, two), part, kept)
            self.assertIs(type(clash(one, two)), tuple, kept)
            with self.assertRaises(Clash) as caught:
                moved(one, two)
            self.assertIs(type(caught.exception), Clash)
            self.assertIsInstance(caught.exception, BoughError)
            self.assertEqual((caught.exception.at, caught.exception.part), (0, part), kept)
            self.assertIs(type(caught.exception.at), int)
            self.assertEqual((one.told(), two.told()), kept)

    def assert_peace(self, deed, other):
        for one, two in ((deed, other), (other, deed)):
            kept = one.told(), two.told()
            self.assertIsNone(clash(one, two), kept)
            self.assertEqual(moved(one, two).told(), behind(one, two).told(), kept)
            self.assertEqual((one.told(), two.told()), kept)


def part_by_kinds(one, two):
    """The part that [14] tells with each case, of two deeds that clash."""
    first, second = sorted((one.told(), two.told()))
    kinds = first[0], second[0]
    if kinds == ("move", "move"):
        if first[1] == second[1]:
            return first[1]
        return first[2] if first[2] == second[2] else min(first[1], second[1])
    return second[1] if kinds == ("move", "put") else first[1]


class Clashes(ClashCase):
    def test_all_fit_one_document(self):
        for deed, other in [(one, two) for one, two, _ in CLASHES] + list(PEACE):
            self.assertTrue(deed.fits(DOC), deed.told())
            self.assertTrue(other.fits(DOC), other.told())

    def test_each_case_in_both_orders(self):
        for deed, other, part in CLASHES:
            self.assert_clash(deed, other, part)

    def test_nearly_such_a_case(self):
        for deed, other in PEACE:
            self.assert_peace(deed, other)

    def test_two_told_alike(self):
        for doc in (DOC, {(): 0}, {(): 0, ("a",): 0}):
            for deed in all_deeds(doc, ("a", "ab", "x"), (0, 9)):
                told = deed.told()
                part = told[1]
                self.assert_clash(deed, deed_of(told), part)
                self.assert_clash(deed, deed, part)

    def test_two_moves_of_which_more_than_one_case_holds(self):
        # One path and one goal: the path, even where the goal is the lesser one.
        self.assert_clash(Move(("c",), ("aa",)), Move(("c",), ("aa",)), ("c",))
        # One goal, which lies below neither path, or below one of them.
        self.assert_clash(Move(("c",), ("a", "x")), Move(("a", "b"), ("a", "x")), ("a", "x"))
        self.assert_clash(Move(("b", "a"), ("b", "x")), Move(("a",), ("b", "x")), ("b", "x"))

    def test_numbers_do_not_matter(self):
        for number in (0, 1, 10 ** 60 - 1, 1 - 10 ** 60):
            self.assert_clash(Put(("x",), number), Put(("x",), 1), ("x",))
            self.assert_clash(Set(("c",), 7, number), Set(("c",), 7, 5), ("c",))
            self.assert_peace(Put(("x",), number), Put(("y",), number))

    def test_just_the_parts_that_are_told(self):
        kinds = set()
        for doc in small_docs(("a", "ab", "b"), 3, 3):
            for one, two in itertools.product(all_deeds(doc, ("a", "ab", "b"), (0, 1)), repeat=2):
                part = clash(one, two)
                self.assertEqual(part, clash(two, one))
                if part is not None:
                    self.assertEqual(part, part_by_kinds(one, two), (doc, one.told(), two.told()))
                    kinds.add((one.told()[0], two.told()[0]))
        self.assertEqual(len(kinds), 12)


def at_peace(doc, deed, other):
    """By [13] and the documents alone: whether each fits behind the other, and both orders come to one document."""
    one, two = behind(deed, other), behind(other, deed)
    first, second = deed.done(doc), other.done(doc)
    return one.fits(second) and two.fits(first) and one.done(second) == two.done(first)


class PeaceByMeaning(unittest.TestCase):
    def each_pair(self):
        for names, most, deepest in ((("a", "ab"), 5, 4), (("a", "ab", "b"), 4, 2)):
            for doc in small_docs(names, most, deepest):
                for deed, other in itertools.product(all_deeds(doc, names, (0, 1)), repeat=2):
                    yield doc, deed, other

    def test_no_clash_just_where_both_orders_come_to_one_document(self):
        peace = many = 0
        for doc, deed, other in self.each_pair():
            many += 1
            peace += clash(deed, other) is None
            if (clash(deed, other) is None) != at_peace(doc, deed, other):
                self.fail((doc, deed.told(), other.told()))
        self.assertGreater(peace, 10000)
        self.assertGreater(many - peace, 10000)

    def test_there_and_back(self):
        for doc, deed, other in self.each_pair():
            if clash(deed, other) is None:
                after = moved(deed, other)
                if moved(after, other.back()).told() != deed.told():
                    self.fail((doc, deed.told(), other.told()))

    def test_the_back_behind_what_the_other_became(self):
        for doc, deed, other in self.each_pair():
            if clash(deed, other) is None:
                if moved(deed.back(), moved(other, deed)).told() != moved(deed, other).back().told():
                    self.fail((doc, deed.told(), other.told()))

    def assert_three(self, d, e, f):
        """Whether what d and f became behind e is at peace, once all that [15] tells of the three is looked at."""
        peace = clash(behind(d, e), behind(f, e)) is None
        if peace != (clash(behind(d, f), behind(e, f)) is None):
            self.fail((d.told(), e.told(), f.told()))
        if peace and moved(moved(d, e), moved(f, e)).told() != moved(moved(d, f), moved(e, f)).told():
            self.fail((d.told(), e.told(), f.told()))
        return peace

    def test_three_deeds_in_both_orders(self):
        peace = 0
        for doc in small_docs(("a", "b"), 4, 3):
            deeds = all_deeds(doc, ("a", "b"), (0, 1))
            for d, e in itertools.product(deeds, repeat=2):
                if clash(d, e) is None:
                    for f in deeds:
                        if clash(d, f) is None and clash(e, f) is None:
                            peace += self.assert_three(d, e, f)
        self.assertGreater(peace, 10000)

    def test_three_moves_in_a_ring(self):
        doc = {(): 0, ("a",): 0, ("b",): 0, ("c",): 0}
        moves = [deed for deed in all_deeds(doc, ("a", "b", "c"), (0, 1)) if isinstance(deed, Move)]
        ring = 0
        for d, e, f in itertools.product(moves, repeat=3):
            if clash(d, e) is None and clash(d, f) is None and clash(e, f) is None:
                ring += not self.assert_three(d, e, f)
        # Each goes below the next one: two ways round, three names for each goal, six orders of the three deeds.
        self.assertEqual(ring, 2 * 27 * 6)

    def test_great_documents_too(self):
        source = random.Random(21)
        both = set()
        for _ in range(2000):
            doc = some_doc(source, source.randrange(1, 15))
            deed, other = fitting_deed(source, doc), fitting_deed(source, doc)
            both.add(clash(deed, other) is None)
            self.assertEqual(clash(deed, other) is None, at_peace(doc, deed, other), (doc, deed.told(), other.told()))
        self.assertEqual(both, {True, False})


class Along(unittest.TestCase):
    def assert_along(self, deed, row, wanted):
        kept, told = deed.told(), list(row)
        self.assertEqual(along(deed, row).told(), wanted)
        self.assertIs(type(along(deed, row)), type(deed))
        self.assertEqual((deed.told(), row), (kept, told))

    def assert_clash(self, deed, row, at, part):
        kept, told = deed.told(), list(row)
        with self.assertRaises(Clash) as caught:
            along(deed, row)
        self.assertIs(type(caught.exception), Clash)
        self.assertEqual((caught.exception.at, caught.exception.part), (at, part))
        self.assertIs(type(caught.exception.at), int)
        self.assertEqual((deed.told(), row), (kept, told))

    def test_a_row_without_deeds(self):
        for deed in all_deeds(DOC, ("a", "x"), (0, 9)):
            self.assert_along(deed, [], deed.told())

    def test_several_deeds(self):
        row = [Move(("a",), ("x",)), Put(("x", "y"), 1), Move(("x", "b"), ("c", "b")), Set((), 0, 9),
               Move(("c",), ("x", "c"))]
        self.assert_along(Set(("a",), 1, 2), row, ("set", ("x",), 1, 2))
        self.assert_along(Set(("a", "b", "c"), 3, 2), row, ("set", ("x", "c", "b", "c"), 3, 2))
        self.assert_along(Put(("a", "b", "d"), 3), row, ("put", ("x", "c", "b", "d"), 3))
        self.assert_along(Cut(("ab",), 4), row, ("cut", ("ab",), 4))
        self.assert_along(Move(("b",), ("a", "z")), row, ("move", ("b",), ("x", "z")))
        self.assert_along(Move(("a", "b", "c"), ("a", "b", "d")), row, ("move", ("x", "c", "b", "c"),
                                                                        ("x", "c", "b", "d")))

    def test_what_it_became_is_moved_on(self):
        # As handed in, the Set would not be touched by the second Move, nor clash with the last Set.
        row = [Move(("a",), ("x",)), Move(("x",), ("y",)), Move(("y",), ("z",))]
        self.assert_along(Set(("a",), 1, 2), row, ("set", ("z",), 1, 2))
        self.assert_clash(Set(("a",), 1, 2), row + [Set(("z",), 1, 3)], 3, ("z",))
        self.assert_along(Put(("d",), 1), [Move(("a",), ("x",)), Put(("a",), 5)], ("put", ("d",), 1))
        self.assert_along(Put(("a", "d"), 1), [Move(("a",), ("x",)), Put(("a",), 5), Put(("a", "d"), 2)],
                          ("put", ("x", "d"), 1))

    def test_the_first_clash_its_number_and_its_part(self):
        row = [Set((), 0, 1), Move(("a",), ("x",)), Set(("x",), 1, 5), Set(("x",), 5, 6), Put(("y",), 1)]
        self.assert_clash(Set((), 0, 2), row, 0, ())
        self.assert_clash(Move(("a",), ("d",)), row, 1, ("a",))
        self.assert_clash(Put(("x",), 9), row, 1, ("x",))
        self.assert_clash(Set(("a",), 1, 2), row, 2, ("x",))
        self.assert_clash(Put(("y",), 9), row, 4, ("y",))
        self.assert_clash(Put(("c", "y"), 9), [Move(("c",), ("x",)), Set(("x",), 7, 8), Move(("a",), ("x", "y"))], 2,
                          ("x", "y"))
        self.assert_clash(Cut(("c",), 7), [Set((), 0, 1), Move(("ab",), ("c", "a"))], 1, ("c",))

    def test_like_moved_one_by_one(self):
        source = random.Random(22)
        ends = {True: 0, False: 0}
        for _ in range(600):
            doc = some_doc(source, source.randrange(2, 10))
            row = fitting_row(source, doc, source.randrange(0, 7))
            deed = fitting_deed(source, doc)
            now, first = deed, None
            for at, other in enumerate(row):
                if clash(now, other) is not None:
                    first = at, clash(now, other)
                    break
                now = moved(now, other)
            ends[first is None] += 1
            if first is None:
                self.assert_along(deed, row, now.told())
                self.assertTrue(now.fits(row_done(doc, row)))
            else:
                self.assert_clash(deed, row, first[0], first[1])
        self.assertGreater(min(ends.values()), 100)


class OwnersAndBounds(ClashCase):
    def test_a_row_is_taken_as_it_is_just_then(self):
        row = [Move(("a",), ("x",))]
        deed = Set(("a",), 1, 2)
        first = along(deed, row)
        row.append(Move(("x",), ("y",)))
        self.assertEqual(first.told(), ("set", ("x",), 1, 2))
        self.assertEqual(along(deed, row).told(), ("set", ("y",), 1, 2))
        row.append(Set(("y",), 1, 3))
        with self.assertRaises(Clash) as caught:
            along(deed, row)
        self.assertEqual(caught.exception.at, 2)
        self.assertEqual(row_told(row), [("move", ("a",), ("x",)), ("move", ("x",), ("y",)), ("set", ("y",), 1, 3)])

    def test_sixty_deeds_and_forty_names(self):
        doc = great_doc()
        long = ("a",) * 40
        row = []
        for _ in range(20):
            row += [Move(("a",), ("z",)), Move(("z",), ("y",)), Move(("y",), ("a",))]
        deed = Set(long, 40, 41)
        self.assertTrue(deed.fits(doc))
        self.assertEqual(along(deed, row).told(), deed.told())
        self.assertEqual(along(deed, row[:-1]).told(), ("set", ("y",) + long[1:], 40, 41))
        with self.assertRaises(Clash) as caught:
            along(deed, row[:-1] + [Set(("y",) + long[1:], 40, 42)])
        self.assertEqual((caught.exception.at, caught.exception.part), (59, ("y",) + long[1:]))
        self.assert_clash(deed, Cut(long, 40), long)
        self.assert_clash(Cut(long, 40), Move(long, ("z",)), long)
        self.assert_peace(deed, Move(long[:39], ("z",)))
        self.assert_peace(deed, Cut(("ba",), 1))

    def test_great_numbers(self):
        great = 10 ** 60 - 1
        self.assertEqual(moved(Put(("a", "x"), great), Move(("a",), ("d",))).told(), ("put", ("d", "x"), great))
        self.assertEqual(moved(Cut(("c",), -great), Move(("c", "d"), ("d",))).told(), ("cut", ("c",), -great))
        self.assertEqual(moved(Set(("a",), -great, great), Move(("a",), ("d",))).told(),
                         ("set", ("d",), -great, great))


if __name__ == "__main__":
    unittest.main()
