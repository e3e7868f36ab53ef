"""Promise [11], the first of [3] with it, and [2] as far as it speaks of ways."""

import random
import unittest

from boughback.boughs import Bough
from boughback.deeds import Cut, Move, Put, Set
from boughback.errors import NoStand
from boughback.rows import row_done, row_told
from boughback.ways import meet, way_between, way_row
from samples import great_doc, some_bough

GREAT = 10 ** 60 - 1
DOC = {(): 1, ("a",): 2}
# The stand on which each next one is grown, and its row: 0 has 1 and 4, 1 has 2 and 3, 3 has 5, 4 has 6.
GROWN = ((0, [Put(("c",), 4), Set((), 1, 5)]), (1, [Cut(("c",), 4)]), (1, [Move(("c",), ("a", "c"))]),
         (0, [Set((), 1, 6)]), (3, [Set(("a", "c"), 4, 7), Set((), 5, 8)]), (4, [Cut(("a",), 2)]))
UP = {1: [("set", (), 5, 1), ("cut", ("c",), 4)], 2: [("put", ("c",), 4)], 3: [("move", ("a", "c"), ("c",))],
      4: [("set", (), 6, 1)], 5: [("set", (), 8, 5), ("set", ("a", "c"), 7, 4)], 6: [("put", ("a",), 2)]}
DOWN = {number + 1: row_told(row) for number, (_, row) in enumerate(GROWN)}


def small_bough():
    bough = Bough(DOC)
    for stand, row in GROWN:
        bough.grow(stand, row)
    return bough


def told_way(way):
    return [(stand, row_told(row)) for stand, row in way]


class Meet(unittest.TestCase):
    def assert_meet(self, bough, one, other, wanted):
        self.assertEqual(meet(bough, one, other), wanted, (one, other))
        self.assertEqual(meet(bough, other, one), wanted, (other, one))

    def test_in_the_root(self):
        bough = small_bough()
        for one, other in ((1, 4), (2, 4), (5, 6), (2, 6), (0, 5), (0, 0), (0, 1)):
            self.assert_meet(bough, one, other, 0)

    def test_in_one_of_the_two(self):
        bough = small_bough()
        for one, other in ((1, 2), (1, 3), (1, 5), (3, 5), (4, 6)):
            self.assert_meet(bough, one, other, one)

    def test_in_one_between(self):
        bough = small_bough()
        self.assert_meet(bough, 2, 3, 1)
        self.assert_meet(bough, 2, 5, 1)

    def test_a_stand_and_itself(self):
        bough = small_bough()
        for stand in range(7):
            self.assert_meet(bough, stand, stand, stand)

    def test_the_last_one_that_both_lines_have(self):
        bough = some_bough(random.Random(15), 60)
        for one in range(60):
            for other in range(60):
                both = [stand for stand in bough.line(one) if stand in bough.line(other)]
                self.assertEqual(meet(bough, one, other), both[-1])


class Ways(unittest.TestCase):
    def assert_way(self, one, other, wanted):
        bough = small_bough()
        way = way_between(bough, one, other)
        self.assertIs(type(way), list)
        for step in way:
            self.assertEqual([type(each) for each in step], [int, list])
            self.assertIs(type(step), tuple)
        self.assertEqual(told_way(way), wanted)
        row = way_row(bough, one, other)
        self.assertIs(type(row), list)
        self.assertEqual(row_told(row), [deed for _, told in wanted for deed in told])
        self.assertEqual(row_done(bough.doc(one), row), bough.doc(other))

    def test_from_a_stand_to_itself(self):
        for stand in range(7):
            self.assert_way(stand, stand, [])

    def test_up(self):
        self.assert_way(1, 0, [(0, UP[1])])
        self.assert_way(5, 3, [(3, UP[5])])
        self.assert_way(5, 0, [(3, UP[5]), (1, UP[3]), (0, UP[1])])

    def test_down(self):
        self.assert_way(0, 1, [(1, DOWN[1])])
        self.assert_way(4, 6, [(6, DOWN[6])])
        self.assert_way(0, 5, [(1, DOWN[1]), (3, DOWN[3]), (5, DOWN[5])])

    def test_up_and_down(self):
        self.assert_way(2, 3, [(1, UP[2]), (3, DOWN[3])])
        self.assert_way(5, 2, [(3, UP[5]), (1, UP[3]), (2, DOWN[2])])
        self.assert_way(2, 5, [(1, UP[2]), (3, DOWN[3]), (5, DOWN[5])])
        self.assert_way(6, 5, [(4, UP[6]), (0, UP[4]), (1, DOWN[1]), (3, DOWN[3]), (5, DOWN[5])])

    def test_nothing_is_trimmed(self):
        bough = Bough(DOC)
        bough.grow(0, [Put(("c",), 4), Cut(("c",), 4)])
        bough.grow(0, [Put(("c",), 4), Cut(("c",), 4)])
        pair = [("put", ("c",), 4), ("cut", ("c",), 4)]
        self.assertEqual(told_way(way_between(bough, 1, 2)), [(0, pair), (2, pair)])
        self.assertEqual(row_told(way_row(bough, 1, 2)), pair + pair)

    def test_leads_from_each_stand_to_each_other(self):
        bough = some_bough(random.Random(16), 40)
        for one in range(40):
            for other in range(40):
                doc, stand = bough.doc(one), one
                for reached, row in way_between(bough, one, other):
                    self.assertTrue(reached == bough.parent(stand) or stand == bough.parent(reached))
                    doc, stand = row_done(doc, row), reached
                    self.assertEqual(doc, bough.doc(reached))
                self.assertEqual(stand, other)
                self.assertEqual(row_done(bough.doc(one), way_row(bough, one, other)), bough.doc(other))

    def test_no_stand_twice_on_a_way(self):
        bough = some_bough(random.Random(17), 40)
        for one in range(40):
            for other in range(40):
                stands = [one] + [stand for stand, _ in way_between(bough, one, other)]
                self.assertEqual(len(set(stands)), len(stands))

    def test_each_document_is_what_all_deeds_from_the_root_make(self):
        bough = some_bough(random.Random(18), 60)
        for stand in range(60):
            row = [deed for each in bough.line(stand) for deed in bough.row(each)]
            self.assertEqual(row_told(way_row(bough, 0, stand)), row_told(row))
            self.assertEqual(row_done(bough.doc(0), row), bough.doc(stand))


class Refusals(unittest.TestCase):
    def test_no_stand(self):
        bough = small_bough()
        for ask in (meet, way_between, way_row):
            for wrong in (-1, -7, -8, 7, 8, GREAT, -GREAT, True, False):
                for stand in (0, 3, 6, wrong, -2):
                    for one, other in ((wrong, stand), (stand, wrong)):
                        with self.assertRaises(NoStand):
                            ask(bough, one, other)
        self.assertEqual(bough.many(), 7)


class OwnersAndBounds(unittest.TestCase):
    def test_a_changed_answer_changes_no_later_one(self):
        for one, other in ((5, 6), (0, 5), (5, 0), (1, 2), (3, 3)):
            bough = small_bough()
            kept = [bough.doc(stand) for stand in range(7)], [row_told(bough.row(stand)) for stand in range(7)]
            way = way_between(bough, one, other)
            wanted = told_way(way)
            for _, row in way:
                row.append(Put(("x",), 1))
                row.pop(0)
            way.append("more")
            way_row(bough, one, other).clear()
            self.assertEqual(told_way(way_between(bough, one, other)), wanted)
            self.assertEqual(row_told(way_row(bough, one, other)), [deed for _, told in wanted for deed in told])
            self.assertEqual(([bough.doc(stand) for stand in range(7)],
                              [row_told(bough.row(stand)) for stand in range(7)]), kept)

    def test_what_is_grown_later_reaches_no_answer(self):
        bough = small_bough()
        way, row = way_between(bough, 5, 6), way_row(bough, 5, 6)
        kept = told_way(way), row_told(row)
        bough.grow(6, [Set((), 6, 7)])
        self.assertEqual((told_way(way), row_told(row)), kept)
        self.assertEqual(told_way(way_between(bough, 5, 6)), kept[0])

    def test_a_way_of_four_hundred_deeds(self):
        doc = great_doc()
        bough = Bough(doc)
        # Two arms of 50 stands each, each stand by a row of 4 deeds.
        for arm, goal in enumerate(("y", "z")):
            stand = 0
            for turn in range(50):
                stand = bough.grow(stand, [Move(("a",), (goal,)), Set((), turn, turn + 1),
                                           Move((goal,), ("a",)), Set(("a",) * 40, 40 + turn, 41 + turn)])
            self.assertEqual(stand, 50 * arm + 50)
        self.assertEqual(meet(bough, 50, 100), 0)
        way = way_between(bough, 50, 100)
        self.assertEqual([stand for stand, _ in way], list(range(49, -1, -1)) + list(range(51, 101)))
        row = way_row(bough, 50, 100)
        self.assertEqual(len(row), 400)
        self.assertEqual(row_done(bough.doc(50), row), bough.doc(100))
        self.assertEqual(bough.doc(100), {**doc, (): 50, ("a",) * 40: 90})

    def test_a_hundred_and_twenty_stands(self):
        bough = some_bough(random.Random(19), 120)
        for one, other in ((0, 119), (119, 0), (119, 60), (60, 119), (118, 117)):
            self.assertEqual(row_done(bough.doc(one), way_row(bough, one, other)), bough.doc(other))


if __name__ == "__main__":
    unittest.main()
