"""Promise [23], what [24] says of the tree of a bough, the last of [3], and [2] as far as it speaks of plans."""

import itertools
import random
import unittest

from boughback.boughs import Bough
from boughback.deeds import Cut, Move, Put, Set
from boughback.errors import BoughError, NoRoom
from boughback.plans import plan, tree_of
from samples import all_by_the_way, great_doc, some_bough, some_tree, told_bough

GREAT = 10 ** 60 - 1


def reach(table, stands):
    """The least number within which these stands cover the tree."""
    return max(min(row[stand] for stand in stands) for row in table)


def least_by_all_choices(table, sizes, room):
    """The least number within which any stands whose sizes come to at most the room cover the tree."""
    every = range(len(sizes))
    choices = [stands for many in every for stands in itertools.combinations(every, many + 1)]
    return min(reach(table, stands) for stands in choices if sum(sizes[stand] for stand in stands) <= room)


class PlanCase(unittest.TestCase):
    def assert_told(self, parents, lengths, sizes, room, table=None):
        """The plan's far, after a look at all that [23] tells of the plan and at what was handed in."""
        tree = parents, lengths, sizes
        kept = [list(each) for each in tree]
        answer = plan(parents, lengths, sizes, room)
        self.assertEqual([parents, lengths, sizes], kept)
        self.assertEqual((type(answer), [type(each) for each in answer]), (tuple, [int, list, list]))
        far, stands, shares = answer
        self.assertTrue(all(type(each) is int for each in stands + shares))
        table = table or all_by_the_way(parents, lengths)
        every = range(len(sizes))
        self.assertEqual(stands, sorted(set(stands)))
        self.assertLessEqual(set(stands), set(every))
        self.assertLessEqual(reach(table, stands), far, (tree, room))
        self.assertLessEqual(sum(sizes[stand] for stand in stands), room, (tree, room))
        self.assertIn(far, [span for row in table for span in row])
        if far == 0:
            self.assertEqual(shares, [])
        else:
            self.assert_shares(table, sizes, far - 1, shares)
            self.assertGreater(sum(shares), room, (tree, room))
        return far

    def assert_shares(self, table, sizes, far, shares):
        self.assertEqual(len(shares), len(sizes))
        self.assertTrue(all(share >= 0 for share in shares))
        for stand, row in enumerate(table):
            near = sum(share for share, span in zip(shares, row) if span <= far)
            self.assertLessEqual(near, sizes[stand])

    def assert_no_room(self, parents, lengths, sizes, room):
        kept = [list(each) for each in (parents, lengths, sizes)]
        with self.assertRaises(NoRoom) as caught:
            plan(parents, lengths, sizes, room)
        self.assertIs(type(caught.exception), NoRoom)
        self.assertIsInstance(caught.exception, BoughError)
        self.assertEqual([parents, lengths, sizes], kept)


class Plans(PlanCase):
    def test_one_stand(self):
        self.assertEqual(plan([None], [0], [3], 3), (0, [0], []))
        self.assertEqual(plan([None], [0], [3], 4), (0, [0], []))
        self.assert_no_room([None], [0], [3], 2)

    def test_two_stands(self):
        tree = [None, 0], [0, 4], [3, 2]
        for room, far, stands in ((2, 4, [1]), (5, 0, [0, 1]), (6, 0, [0, 1]), (GREAT, 0, [0, 1])):
            self.assertEqual(plan(*tree, room)[:2], (far, stands))
            self.assert_told(*tree, room)
        for room in (3, 4):
            self.assertEqual(self.assert_told(*tree, room), 4)

    def test_a_line(self):
        line = [None, 0, 1, 2, 3, 4], [0, 1, 1, 1, 1, 1], [1] * 6
        for room, far in ((1, 3), (2, 1), (3, 1), (4, 1), (5, 1), (6, 0), (7, 0)):
            self.assertEqual(self.assert_told(*line, room), far)
        self.assertEqual(plan(*line, 2)[:2], (1, [1, 4]))
        self.assert_no_room(*line, 0)

    def test_a_star(self):
        star = [None, 0, 0, 0, 0], [0, 2, 2, 2, 3], [4, 1, 1, 1, 1]
        for room, far in ((1, 5), (2, 4), (3, 4), (4, 2), (5, 2), (6, 2), (7, 2), (8, 0)):
            self.assertEqual(self.assert_told(*star, room), far, room)
        self.assert_no_room(*star, 0)

    def test_rooms_at_the_edges(self):
        source = random.Random(37)
        for _ in range(60):
            tree = some_tree(source, source.randrange(2, 10), 6, 9)
            table = all_by_the_way(*tree[:2])
            least, all_sizes = min(tree[2]), sum(tree[2])
            self.assert_no_room(*tree, least - 1)
            alone = min(max(table[stand]) for stand, size in enumerate(tree[2]) if size == least)
            self.assertEqual(self.assert_told(*tree, least, table), alone)
            self.assertEqual(plan(*tree, all_sizes), (0, list(range(len(tree[2]))), []))
            self.assertGreater(self.assert_told(*tree, all_sizes - 1), 0)

    def test_no_room(self):
        tree = [None, 0, 0, 1], [0, 1, 2, 3], [5, 4, 6, 4]
        for room in (3, 1, 0, -1, -4, -GREAT):
            self.assert_no_room(*tree, room)
        self.assertEqual(self.assert_told(*tree, 4), 3)

    def test_a_room_of_sixty_figures(self):
        tree = [None, 0, 0, 1], [0, 1, 2, 3], [5, 4, 6, 4]
        for room in (19, 20, 10 ** 59, GREAT):
            self.assertEqual(plan(*tree, room), (0, [0, 1, 2, 3], []))


class LeastOfAllChoices(PlanCase):
    def assert_least(self, tree, rooms):
        table = all_by_the_way(*tree[:2])
        for room in rooms:
            self.assertEqual(self.assert_told(*tree, room, table), least_by_all_choices(table, tree[2], room),
                             (tree, room))

    def test_each_room_of_many_small_trees(self):
        source = random.Random(38)
        for _ in range(60):
            tree = some_tree(source, source.randrange(1, 6), source.choice((1, 3, 9)), source.choice((1, 3, 6)))
            self.assert_least(tree, range(min(tree[2]), sum(tree[2]) + 2))

    def test_some_rooms_of_greater_trees(self):
        source = random.Random(39)
        for _ in range(40):
            tree = some_tree(source, source.randrange(6, 9), source.choice((1, 4, 10 ** 9)), source.choice((1, 3, 40)))
            self.assert_least(tree, sorted(source.choices(range(min(tree[2]), sum(tree[2]) + 1), k=4)))


class TreeOf(unittest.TestCase):
    def assert_tree(self, bough, parents, lengths, sizes):
        kept = told_bough(bough)
        answer = tree_of(bough)
        self.assertEqual((type(answer), [type(each) for each in answer]), (tuple, [list] * 3))
        self.assertEqual(answer, (parents, lengths, sizes))
        self.assertEqual(told_bough(bough), kept)

    def test_one_stand(self):
        self.assert_tree(Bough({(): 7}), [None], [0], [1])
        self.assert_tree(Bough({(): 7, ("a",): 7, ("a", "b"): 7}), [None], [0], [3])

    def test_several_lines_and_rows_of_several_deeds(self):
        bough = Bough({(): 1, ("a",): 2})
        bough.grow(0, [Put(("c",), 4), Set((), 1, 5), Put(("d",), 1)])
        bough.grow(1, [Cut(("c",), 4)])
        bough.grow(0, [Cut(("a",), 2), Set((), 1, 6)])
        bough.grow(1, [Move(("c",), ("a", "c")), Set(("a", "c"), 4, 5), Cut(("d",), 1), Cut(("a", "c"), 5)])
        bough.grow(3, [Set((), 6, 7)])
        self.assert_tree(bough, [None, 0, 1, 0, 1, 3], [0, 3, 1, 2, 4, 1], [2, 4, 3, 1, 2, 1])

    def test_deeds_that_take_back_one_another_count(self):
        bough = Bough({(): 1})
        bough.grow(0, [Put(("c",), 4), Cut(("c",), 4)])
        self.assert_tree(bough, [None, 0], [0, 2], [1, 1])

    def test_many_boughs(self):
        source = random.Random(40)
        for _ in range(20):
            bough = some_bough(source, source.randrange(1, 30))
            every = range(bough.many())
            self.assert_tree(bough, [bough.parent(stand) for stand in every],
                             [len(bough.row(stand)) for stand in every], [len(bough.doc(stand)) for stand in every])

    def test_its_plan_for_each_room(self):
        source = random.Random(41)
        for _ in range(6):
            tree = tree_of(some_bough(source, 7))
            table = all_by_the_way(*tree[:2])
            for room in range(min(tree[2]), sum(tree[2]) + 1):
                self.assertEqual(plan(*tree, room)[0], least_by_all_choices(table, tree[2], room))


class OwnersAndBounds(PlanCase):
    def test_a_changed_plan_changes_no_later_one(self):
        for room in (3, 6, 12):
            tree = [None, 0, 1, 1, 0], [0, 2, 1, 3, 1], [4, 1, 2, 3, 2]
            kept = [list(each) for each in tree]
            first = plan(*tree, room)
            wanted = first[0], list(first[1]), list(first[2])
            for each in tree:
                each[2] = 1
                each.append(1)
            self.assertEqual(first, wanted)
            for each, old in zip(tree, kept):
                each[:] = old
            for each in first[1:]:
                each.append(5)
                each[0] = 100
            self.assertEqual([list(each) for each in tree], kept)
            self.assertEqual(plan(*tree, room), wanted)

    def test_a_changed_tree_changes_no_bough(self):
        bough = some_bough(random.Random(42), 9)
        kept = told_bough(bough)
        first = tree_of(bough)
        wanted = [list(each) for each in first]
        for each in first:
            each[0] = 100
            each.append(5)
        self.assertEqual(told_bough(bough), kept)
        self.assertEqual(list(tree_of(bough)), wanted)
        again = tree_of(bough)
        bough.grow(0, [Put(("zz",), 1)])
        self.assertEqual(list(again), wanted)

    def test_stands_that_are_very_far(self):
        # A far that were found by counting up would never be come to.
        great = 10 ** 9
        line = [None] + list(range(119)), [0] + [great] * 119, [1] * 120
        for room, steps in ((1, 60), (2, 30), (24, 2), (39, 2), (40, 1), (119, 1), (120, 0)):
            self.assertEqual(self.assert_told(*line, room), steps * great, room)
        self.assertEqual(self.assert_told([None, 0], [0, great], [1, 1], 1), great)
        star = [None] + [0] * 119, [0] + [great - stand for stand in range(119)], [2] + [1] * 119
        self.assertEqual(self.assert_told(*star, 1), 2 * great - 118)
        self.assertEqual(self.assert_told(*star, 2), great)
        self.assertEqual(self.assert_told(*star, 12), great - 10)
        self.assertEqual(self.assert_told(*star, 120), great - 118)

    def test_a_hundred_and_twenty_stands_great_lengths_and_sizes(self):
        source = random.Random(43)
        great = 10 ** 9
        for _ in range(3):
            tree = some_tree(source, 120, great, great)
            table = all_by_the_way(*tree[:2])
            least, all_sizes = min(tree[2]), sum(tree[2])
            last = None
            for room in (least, 2 * least, all_sizes // 40, all_sizes // 3, all_sizes - 1, all_sizes, GREAT):
                far = self.assert_told(*tree, room, table)
                self.assertTrue(last is None or far <= last)
                last = far
            self.assertEqual(last, 0)
            self.assert_no_room(*tree, least - 1)

    def test_the_tree_of_a_great_bough(self):
        bough = Bough(great_doc())
        for stand in range(119):
            row = [Set((), stand, stand + 1), Move(("ba",), ("z",)), Move(("z",), ("ba",))]
            bough.grow(stand, row if stand % 2 else row[:1])
        tree = tree_of(bough)
        self.assertEqual(tree, ([None] + list(range(119)), [0] + [1, 3] * 59 + [1], [300] * 120))
        self.assert_told(*tree, 3000)


if __name__ == "__main__":
    unittest.main()
