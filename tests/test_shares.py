"""Promise [22], and [2] as far as it speaks of shares and covers."""

import itertools
import random
import unittest

from boughback.shares import cover, shares
from samples import all_by_the_way, some_tree

GREAT = 10 ** 60 - 1


def covers(table, stands, far):
    """Whether each stand is within the number of one of these."""
    return all(any(row[stand] <= far for stand in stands) for row in table)


def least_by_all_choices(table, sizes, far):
    """The least that the sizes of stands which cover come to, over all choices of stands."""
    every = range(len(sizes))
    choices = [stands for many in every for stands in itertools.combinations(every, many + 1)]
    return min(sum(sizes[stand] for stand in stands) for stands in choices if covers(table, stands, far))


def in_turn(table, sizes, far):
    """What the shares come to that are given in turn, the farthest from stand 0 first, as [22] tells."""
    left = list(sizes)
    total = 0
    for stand in sorted(range(len(sizes)), key=lambda each: -table[0][each]):
        near = [other for other in range(len(sizes)) if table[stand][other] <= far]
        share = min(left[other] for other in near)
        total += share
        for other in near:
            left[other] -= share
    return total


def small_trees(many, longest, greatest):
    """All trees of so many stands, with lengths and sizes from 1 to the told ones."""
    for parents in itertools.product(*[range(number) for number in range(1, many)]):
        for lengths in itertools.product(range(1, longest + 1), repeat=many - 1):
            for sizes in itertools.product(range(1, greatest + 1), repeat=many):
                yield [None] + list(parents), [0] + list(lengths), list(sizes)


class SharesCase(unittest.TestCase):
    def assert_numbers(self, answer):
        self.assertIs(type(answer), list)
        self.assertTrue(all(type(each) is int for each in answer), answer)

    def assert_told(self, parents, lengths, sizes, far, table=None):
        """What both come to, after a look at all that [22] tells of them and at what was handed in."""
        tree = parents, lengths, sizes
        kept = [list(each) for each in tree]
        told = shares(parents, lengths, sizes, far)
        stands = cover(parents, lengths, sizes, far)
        self.assertEqual([parents, lengths, sizes], kept)
        self.assert_numbers(told)
        self.assert_numbers(stands)
        table = table or all_by_the_way(parents, lengths)
        every = range(len(sizes))
        self.assertEqual(len(told), len(sizes))
        self.assertTrue(all(share >= 0 for share in told), (tree, far))
        for stand in every:
            near = sum(told[other] for other in every if table[stand][other] <= far)
            self.assertLessEqual(near, sizes[stand], (tree, far, stand))
        self.assertEqual(stands, sorted(set(stands)))
        self.assertLessEqual(set(stands), set(every))
        self.assertTrue(covers(table, stands, far), (tree, far))
        total = sum(told)
        self.assertEqual(total, sum(sizes[stand] for stand in stands), (tree, far))
        return total


class OneKindOfTree(SharesCase):
    def test_one_stand(self):
        for far in (0, 1, 5, GREAT):
            self.assertEqual(shares([None], [0], [7], far), [7])
            self.assertEqual(cover([None], [0], [7], far), [0])

    def test_two_stands(self):
        # One less than they are apart, just as far, and one more.
        tree = [None, 0], [0, 4], [3, 2]
        self.assertEqual((shares(*tree, 3), cover(*tree, 3)), ([3, 2], [0, 1]))
        for far in (4, 5):
            self.assertEqual(self.assert_told(*tree, far), 2)
            self.assertEqual(cover(*tree, far), [1])

    def test_within_nothing_each_stand_covers_itself_alone(self):
        source = random.Random(32)
        for _ in range(50):
            tree = some_tree(source, source.randrange(1, 12), 3, 9)
            self.assertEqual(shares(*tree, 0), tree[2])
            self.assertEqual(cover(*tree, 0), list(range(len(tree[2]))))

    def test_a_line(self):
        line = [None, 0, 1, 2, 3, 4], [0, 1, 1, 1, 1, 1]
        self.assertEqual(self.assert_told(*line, [1] * 6, 1), 2)
        self.assertEqual(cover(*line, [1] * 6, 1), [1, 4])
        self.assertEqual(self.assert_told(*line, [1] * 6, 2), 2)
        self.assertEqual(self.assert_told(*line, [1] * 6, 3), 1)
        # The two that would do by themselves are too great.
        self.assertEqual(self.assert_told(*line, [1, 9, 1, 1, 9, 1], 1), 3)
        self.assertIn(cover(*line, [1, 9, 1, 1, 9, 1], 1), ([0, 2, 5], [0, 3, 5]))
        self.assertEqual(self.assert_told(*line, [9, 1, 9, 9, 1, 9], 1), 2)

    def test_a_star(self):
        star = [None, 0, 0, 0, 0], [0, 2, 2, 2, 2]
        self.assertEqual(self.assert_told(*star, [3, 1, 1, 1, 1], 1), 7)
        self.assertEqual(self.assert_told(*star, [3, 1, 1, 1, 1], 2), 3)
        self.assertEqual(cover(*star, [3, 1, 1, 1, 1], 2), [0])
        self.assertEqual(self.assert_told(*star, [5, 1, 1, 1, 1], 2), 4)
        self.assertEqual(cover(*star, [5, 1, 1, 1, 1], 2), [1, 2, 3, 4])
        self.assertEqual(self.assert_told(*star, [3, 1, 1, 1, 1], 3), 3)
        self.assertEqual(self.assert_told(*star, [3, 2, 2, 1, 2], 4), 1)
        self.assertEqual(cover(*star, [3, 2, 2, 1, 2], 4), [3])

    def test_a_number_greater_than_any_two_stands_are_far(self):
        source = random.Random(33)
        for _ in range(60):
            parents, lengths, sizes = some_tree(source, source.randrange(1, 12), 5, 9)
            farthest = max(max(row) for row in all_by_the_way(parents, lengths))
            for far in (farthest, farthest + 1, farthest + 100, GREAT):
                self.assertEqual(self.assert_told(parents, lengths, sizes, far), min(sizes))
                self.assertEqual(len(cover(parents, lengths, sizes, far)), 1)


class LeastOfAllChoices(SharesCase):
    def assert_least(self, parents, lengths, sizes):
        table = all_by_the_way(parents, lengths)
        farthest = max(max(row) for row in table)
        last = sum(sizes)
        for far in range(farthest + 2):
            total = self.assert_told(parents, lengths, sizes, far, table)
            self.assertEqual(total, least_by_all_choices(table, sizes, far), (parents, lengths, sizes, far))
            self.assertEqual(total, in_turn(table, sizes, far))
            self.assertLessEqual(total, last)
            last = total

    def test_all_trees_of_four_stands_at_most(self):
        for many, greatest in ((1, 3), (2, 3), (3, 3), (4, 2)):
            for tree in small_trees(many, 2, greatest):
                self.assert_least(*tree)

    def test_many_trees_of_up_to_eight_stands(self):
        source = random.Random(34)
        for _ in range(120):
            self.assert_least(*some_tree(source, source.randrange(5, 9), source.choice((1, 2, 4)),
                                         source.choice((1, 3, 9))))

    def test_many_trees_of_more_stands(self):
        source = random.Random(35)
        for _ in range(150):
            tree = some_tree(source, source.randrange(9, 30), source.choice((1, 3, 20)), source.choice((1, 4, 60)))
            table = all_by_the_way(*tree[:2])
            for far in source.sample(range(max(map(max, table)) + 1), 5):
                self.assertEqual(self.assert_told(*tree, far, table), in_turn(table, tree[2], far))


class OwnersAndBounds(SharesCase):
    def test_changed_afterwards(self):
        for ask in (shares, cover):
            for far in (0, 1, 3, 9):
                tree = [None, 0, 1, 1, 0], [0, 2, 1, 3, 1], [4, 1, 2, 3, 2]
                kept = [list(each) for each in tree]
                first = ask(*tree, far)
                wanted = list(first)
                for each in tree:
                    each[2] = 1
                    each.append(1)
                self.assertEqual(first, wanted)
                for each, old in zip(tree, kept):
                    each[:] = old
                first[0] = 100
                first.append(5)
                self.assertEqual([list(each) for each in tree], kept)
                self.assertEqual(ask(*tree, far), wanted)
                self.assertIsNot(ask(*tree, far), tree[2])

    def test_a_hundred_and_twenty_stands_great_lengths_and_sizes(self):
        great = 10 ** 9
        source = random.Random(36)
        line = [None] + list(range(119))
        star = [None] + [0] * 119
        lengths = [0] + [great] * 119
        sizes = [great] * 120
        for far, wanted in ((0, 120), (great - 1, 120), (great, 40), (2 * great, 24), (60 * great, 1)):
            self.assertEqual(self.assert_told(line, lengths, sizes, far), wanted * great)
        for far, wanted in ((great - 1, 120), (great, 1), (2 * great, 1)):
            self.assertEqual(self.assert_told(star, lengths, sizes, far), wanted * great)
        for _ in range(3):
            tree = some_tree(source, 120, great, great)
            table = all_by_the_way(*tree[:2])
            farthest = max(map(max, table))
            for far in (great // 2, great, farthest // 4, farthest // 2, farthest - 1, farthest, GREAT):
                self.assertEqual(self.assert_told(*tree, far, table), in_turn(table, tree[2], far))


if __name__ == "__main__":
    unittest.main()
