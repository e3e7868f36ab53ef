"""Promise [21], and [2] as far as it speaks of spans."""

import random
import unittest

from boughback.spans import spans
from samples import all_by_the_way


class SpansCase(unittest.TestCase):
    def assert_spans(self, parents, lengths, wanted):
        kept = list(parents), list(lengths)
        found = spans(parents, lengths)
        self.assertEqual(found, wanted)
        self.assertIs(type(found), list)
        for row in found:
            self.assertIs(type(row), list)
            self.assertTrue(all(type(each) is int for each in row))
        self.assertEqual((parents, lengths), kept)


class Spans(SpansCase):
    def test_one_stand(self):
        self.assert_spans([None], [0], [[0]])

    def test_two_stands(self):
        self.assert_spans([None, 0], [0, 7], [[0, 7], [7, 0]])

    def test_a_line(self):
        self.assert_spans([None, 0, 1, 2], [0, 1, 2, 4],
                          [[0, 1, 3, 7], [1, 0, 2, 6], [3, 2, 0, 4], [7, 6, 4, 0]])

    def test_several_below_the_root(self):
        self.assert_spans([None, 0, 0, 0], [0, 1, 2, 4],
                          [[0, 1, 2, 4], [1, 0, 3, 5], [2, 3, 0, 6], [4, 5, 6, 0]])

    def test_several_below_others(self):
        # 0 has 1 and 3, 1 has 2 and 4, 3 has 5.
        self.assert_spans([None, 0, 1, 0, 1, 3], [0, 3, 1, 5, 2, 10],
                          [[0, 3, 4, 5, 5, 15], [3, 0, 1, 8, 2, 18], [4, 1, 0, 9, 3, 19], [5, 8, 9, 0, 10, 10],
                           [5, 2, 3, 10, 0, 20], [15, 18, 19, 10, 20, 0]])

    def test_by_the_way_alike_from_both_ends(self):
        source = random.Random(30)
        for _ in range(150):
            many = source.randrange(1, 14)
            parents = [None] + [source.randrange(number) for number in range(1, many)]
            lengths = [0] + [source.randrange(1, 9) for _ in range(1, many)]
            wanted = all_by_the_way(parents, lengths)
            self.assert_spans(parents, lengths, wanted)
            for one in range(many):
                self.assertEqual(wanted[one][one], 0)
                for other in range(many):
                    self.assertEqual(wanted[one][other], wanted[other][one])


class OwnersAndBounds(SpansCase):
    def test_changed_afterwards(self):
        parents, lengths = [None, 0, 1, 1], [0, 2, 3, 4]
        first = spans(parents, lengths)
        kept = [list(row) for row in first]
        lengths[1] = 9
        parents[3] = 0
        parents.append(0)
        self.assertEqual(first, kept)
        parents[:], lengths[:] = [None, 0, 1, 1], [0, 2, 3, 4]
        for place, row in enumerate(first):
            row.append("more")
            self.assertEqual([len(each) for each in first], [5] * (place + 1) + [4] * (3 - place))
            row[0] = 100
        first.clear()
        self.assertEqual((parents, lengths), ([None, 0, 1, 1], [0, 2, 3, 4]))
        self.assertEqual(spans(parents, lengths), kept)

    def test_a_hundred_and_twenty_stands_and_great_lengths(self):
        great = 10 ** 9
        line = [None] + list(range(119))
        lengths = [0] + [great] * 119
        self.assert_spans(line, lengths, [[great * abs(one - other) for other in range(120)] for one in range(120)])
        star = [None] + [0] * 119
        self.assert_spans(star, lengths, [[great * ((one > 0) + (other > 0)) * (one != other) for other in range(120)]
                                          for one in range(120)])
        source = random.Random(31)
        parents = [None] + [source.randrange(max(0, number - 4), number) for number in range(1, 120)]
        lengths = [0] + [source.randrange(1, great + 1) for _ in range(119)]
        self.assert_spans(parents, lengths, all_by_the_way(parents, lengths))


if __name__ == "__main__":
    unittest.main()
