"""What [24] says of a bough kept within a room, the last of [3], and [2] as far as it speaks of it."""

import itertools
import random
import unittest

from boughback.boughs import Bough
from boughback.deeds import Cut, Move, Put, Set
from boughback.errors import BoughError, NoRoom, NoStand
from boughback.kept import Kept
from boughback.plans import plan, tree_of
from boughback.rows import row_done, row_told
from boughback.ways import way_row
from samples import great_doc, some_bough, told_bough

GREAT = 10 ** 60 - 1


def small_bough():
    """0, of two parts, has 1, of four, and 3, of one; 1 has 2, of three, and 4, of two; 3 has 5, of one."""
    bough = Bough({(): 1, ("a",): 2})
    bough.grow(0, [Put(("c",), 4), Set((), 1, 5), Put(("d",), 1)])
    bough.grow(1, [Cut(("c",), 4)])
    bough.grow(0, [Cut(("a",), 2), Set((), 1, 6)])
    bough.grow(1, [Move(("c",), ("a", "c")), Cut(("a", "c"), 4), Cut(("d",), 1)])
    bough.grow(3, [Set((), 6, 7)])
    return bough


def told_kept(kept, stands):
    """All that is told of what is kept."""
    near = [kept.near(stand) for stand in range(stands)]
    return (kept.far(), kept.whole(), [(stand, row_told(row)) for stand, row in near],
            [kept.doc(stand) for stand in range(stands)])


class KeptCase(unittest.TestCase):
    def assert_kept(self, bough, room):
        """What is kept, after a look at all that [24] tells of it."""
        before = told_bough(bough)
        kept = Kept(bough, room)
        tree = tree_of(bough)
        far, whole = kept.far(), kept.whole()
        self.assertEqual((type(far), type(whole)), (int, list))
        self.assertEqual(far, plan(*tree, room)[0])
        self.assertEqual(whole, sorted(set(whole)))
        self.assertLessEqual(sum(tree[2][stand] for stand in whole), room)
        for stand in range(bough.many()):
            near = kept.near(stand)
            self.assertEqual((type(near), [type(each) for each in near]), (tuple, [int, list]))
            self.assertIn(near[0], whole)
            self.assertLessEqual(len(near[1]), far)
            self.assertEqual(row_told(near[1]), row_told(way_row(bough, near[0], stand)))
            self.assertEqual(row_done(bough.doc(near[0]), near[1]), bough.doc(stand))
            doc = kept.doc(stand)
            self.assertIs(type(doc), dict)
            self.assertEqual(doc, bough.doc(stand))
        self.assertEqual(told_bough(bough), before)
        return kept

    def assert_no_stand(self, kept, stand):
        for ask in (kept.near, kept.doc):
            with self.assertRaises(NoStand) as caught:
                ask(stand)
            self.assertIs(type(caught.exception), NoStand)
            self.assertIsInstance(caught.exception, BoughError)

    def assert_no_room(self, bough, room):
        before = told_bough(bough)
        with self.assertRaises(NoRoom) as caught:
            Kept(bough, room)
        self.assertIs(type(caught.exception), NoRoom)
        self.assertEqual(told_bough(bough), before)


class KeptWithinARoom(KeptCase):
    def test_one_stand(self):
        kept = self.assert_kept(Bough({(): 5, ("a",): 6}), 2)
        self.assertEqual(told_kept(kept, 1), (0, [0], [(0, [])], [{(): 5, ("a",): 6}]))

    def test_the_least_room(self):
        # Of the two stands of one part, 3 is nearer to the farthest one, which is 4.
        kept = self.assert_kept(small_bough(), 1)
        self.assertEqual((kept.far(), kept.whole()), (8, [3]))
        self.assertEqual(kept.near(3), (3, []))
        near = kept.near(2)
        self.assertEqual((near[0], row_told(near[1])),
                         (3, [("set", (), 6, 1), ("put", ("a",), 2), ("put", ("c",), 4), ("set", (), 1, 5),
                              ("put", ("d",), 1), ("cut", ("c",), 4)]))

    def test_a_room_for_some(self):
        # With 4 and one of the stands of one part, 2 is 4 deeds from 4.
        kept = self.assert_kept(small_bough(), 3)
        self.assertEqual(kept.far(), 4)
        self.assertIn(kept.whole(), ([3, 4], [4, 5]))
        # With 2, too, 0 is the farthest, 2 deeds from 3.
        kept = self.assert_kept(small_bough(), 6)
        self.assertEqual((kept.far(), kept.whole()), (2, [2, 3, 4]))

    def test_a_room_for_all(self):
        bough = small_bough()
        for room in (13, 14, GREAT):
            kept = self.assert_kept(bough, room)
            self.assertEqual((kept.far(), kept.whole()), (0, [0, 1, 2, 3, 4, 5]))
            for stand in range(6):
                self.assertEqual(kept.near(stand), (stand, []))
        self.assertGreater(self.assert_kept(bough, 12).far(), 0)

    def test_no_choice_of_whole_ones_is_nearer(self):
        source = random.Random(44)
        for bough in [small_bough()] + [some_bough(source, 6) for _ in range(6)]:
            every = range(bough.many())
            sizes = [len(bough.doc(stand)) for stand in every]
            deeds = [[len(way_row(bough, one, other)) for other in every] for one in every]
            choices = [stands for many in every for stands in itertools.combinations(every, many + 1)]
            for room in range(min(sizes), sum(sizes) + 2):
                least = min(max(min(row[stand] for stand in stands) for row in deeds) for stands in choices
                            if sum(sizes[stand] for stand in stands) <= room)
                self.assertEqual(self.assert_kept(bough, room).far(), least)

    def test_many_boughs_and_rooms(self):
        source = random.Random(45)
        for _ in range(12):
            bough = some_bough(source, source.randrange(8, 30))
            sizes = [len(bough.doc(stand)) for stand in range(bough.many())]
            for room in source.sample(range(min(sizes), sum(sizes) + 1), 4):
                self.assert_kept(bough, room)


class Refusals(KeptCase):
    def test_no_room(self):
        bough = small_bough()
        for room in (0, -1, -13, -GREAT):
            self.assert_no_room(bough, room)
        bough = Bough({(): 0, ("a",): 0})
        bough.grow(0, [Put(("b",), 0)])
        self.assert_no_room(bough, 1)
        self.assertEqual(self.assert_kept(bough, 2).whole(), [0])

    def test_no_stand(self):
        bough = small_bough()
        for room in (1, 6, 13):
            kept = Kept(bough, room)
            before = told_kept(kept, 6)
            for stand in (-1, -6, -7, 6, 7, 100, GREAT, -GREAT, True, False):
                self.assert_no_stand(kept, stand)
            self.assertEqual(told_kept(kept, 6), before)

    def test_stands_that_are_grown_later(self):
        bough = small_bough()
        kept = Kept(bough, 6)
        new = bough.grow(5, [Set((), 7, 8)])
        newer = bough.grow(0, [Set((), 1, 8)])
        self.assert_no_stand(kept, new)
        self.assert_no_stand(kept, newer)
        again = self.assert_kept(bough, 6)
        self.assertEqual(again.doc(new), {(): 8})


class OwnersAndBounds(KeptCase):
    def test_what_is_grown_later_changes_nothing_in_it(self):
        for room in (1, 3, 6, 13):
            bough = small_bough()
            kept = Kept(bough, room)
            before = told_kept(kept, 6)
            for stand in (0, 5, 2, 4, 3):
                new = bough.grow(stand, [Put(("x",), 1), Put(("x", "x"), 1), Put(("y",), 1)])
                bough.grow(new, [Cut(("y",), 1)])
            bough.call("new", 7)
            self.assertEqual(told_kept(kept, 6), before)

    def test_told_lists_rows_and_documents_changed_by_their_asker(self):
        for room in (1, 3, 6, 13):
            bough = small_bough()
            before = told_bough(bough)
            kept = Kept(bough, room)
            told = told_kept(kept, 6)
            whole = kept.whole()
            whole.append(0)
            whole[0] = 100
            for stand in range(6):
                row = kept.near(stand)[1]
                row.insert(0, Put(("x",), 1))
                row.clear()
                kept.near(stand)[1].append(Put(("x",), 1))
                doc = kept.doc(stand)
                doc[("x",)] = 9
                doc[()] = 9
                kept.doc(stand).clear()
            self.assertEqual(told_kept(kept, 6), told)
            self.assertEqual(told_bough(bough), before)

    def test_two_that_are_kept_of_one_bough(self):
        bough = small_bough()
        little, much = Kept(bough, 1), Kept(bough, 13)
        told = told_kept(little, 6)
        much.whole().clear()
        much.doc(3).clear()
        self.assertEqual(told_kept(little, 6), told)
        self.assertEqual((little.far(), much.far()), (8, 0))

    def test_a_hundred_and_twenty_stands(self):
        source = random.Random(46)
        bough = some_bough(source, 120)
        sizes = [len(bough.doc(stand)) for stand in range(120)]
        for room in (min(sizes), sum(sizes) // 10, sum(sizes)):
            self.assert_kept(bough, room)
        self.assert_no_room(bough, min(sizes) - 1)

    def test_great_documents_and_a_line_of_four_hundred_deeds(self):
        source = random.Random(47)
        doc = great_doc()
        doc[("a",) * 40] = GREAT
        bough = Bough(doc)
        for stand in range(100):
            path = ("a",) * source.randrange(40)
            number = bough.doc(stand)[path]
            bough.grow(stand, [Set(path, number, number + 1), Move(("a",), ("zz",)), Move(("zz",), ("a",)),
                               Set(("ba",), stand + 1, stand + 2)])
        kept = self.assert_kept(bough, 300)
        self.assertEqual((kept.far(), kept.whole()), (200, [50]))
        self.assertEqual(self.assert_kept(bough, 3000).far(), 20)


if __name__ == "__main__":
    unittest.main()
