"""Promise [16], and [2] as far as it speaks of grids."""

import random
import unittest

from boughback.deeds import Cut, Move, Put, Set
from boughback.grids import grid
from boughback.moving import behind, clash
from boughback.rows import row_done, row_fits, row_told
from samples import fitting_row, great_doc, some_doc

DOC = {(): 0, ("a",): 1, ("a", "b"): 2, ("ab",): 3, ("b",): 4, ("c",): 5}


def told(answer):
    """The answer with told rows in the place of rows."""
    if answer[0] == "met":
        return ("met", row_told(answer[1]), row_told(answer[2]))
    return answer


class GridCase(unittest.TestCase):
    def asked(self, doc, ones, others):
        """The answer, after a look at its kinds, at what was handed in, and at the rows the other way round."""
        kept = list(ones), list(others)
        answer = grid(ones, others)
        turned = grid(others, ones)
        self.assertEqual((ones, others), kept)
        self.assertIs(type(answer), tuple)
        self.assertEqual(turned[0], answer[0])
        if answer[0] == "met":
            self.assertEqual([type(each) for each in answer], [str, list, list])
            self.assertEqual(told(turned), ("met", row_told(answer[2]), row_told(answer[1])))
            self.assertEqual(row_done(row_done(doc, ones), answer[2]), row_done(row_done(doc, others), answer[1]))
        else:
            self.assertEqual([type(each) for each in answer], [str, list])
            for cell in answer[1]:
                self.assertEqual((type(cell), [type(each) for each in cell]), (tuple, [int, int, tuple]))
            self.assertEqual(answer[1], sorted(answer[1]))
            self.assertEqual(turned[1], sorted((j, i, part) for i, j, part in answer[1]))
        return answer

    def assert_met(self, doc, ones, others, wanted_ones, wanted_others):
        self.assertEqual(told(self.asked(doc, ones, others)), ("met", wanted_ones, wanted_others))

    def assert_clash(self, doc, ones, others, cells):
        self.assertTrue(row_fits(doc, ones) and row_fits(doc, others))
        self.assertEqual(self.asked(doc, ones, others), ("clash", cells))


class Met(GridCase):
    def test_rows_without_deeds(self):
        row = [Move(("a",), ("x",)), Set(("x",), 1, 2), Cut(("c",), 5), Put(("x", "c"), 6)]
        self.assert_met(DOC, [], [], [], [])
        self.assert_met(DOC, row, [], row_told(row), [])
        self.assert_met(DOC, [], row, [], row_told(row))

    def test_one_deed_each(self):
        self.assert_met(DOC, [Put(("a", "x"), 7)], [Move(("a",), ("d",))], [("put", ("d", "x"), 7)],
                        [("move", ("a",), ("d",))])
        self.assert_met(DOC, [Set((), 0, 1)], [Cut(("c",), 5)], [("set", (), 0, 1)], [("cut", ("c",), 5)])

    def test_several_deeds(self):
        ones = [Move(("a",), ("c", "a")), Set(("c", "a"), 1, 7), Put(("c", "a", "d"), 8)]
        others = [Set(("a", "b"), 2, 9), Move(("c",), ("x",)), Move(("a", "b"), ("x", "b")), Cut(("ab",), 3)]
        self.assert_met(DOC, ones, others,
                        [("move", ("a",), ("x", "a")), ("set", ("x", "a"), 1, 7), ("put", ("x", "a", "d"), 8)],
                        [("set", ("c", "a", "b"), 2, 9), ("move", ("c",), ("x",)),
                         ("move", ("x", "a", "b"), ("x", "b")), ("cut", ("ab",), 3)])
        self.assertEqual(row_done(row_done(DOC, ones), grid(ones, others)[2]),
                         {(): 0, ("b",): 4, ("x",): 5, ("x", "a"): 7, ("x", "a", "d"): 8, ("x", "b"): 9})

    def test_each_behind_all_of_the_others_as_they_became(self):
        # Behind the first of the ones, the other goes from ("x", "b"): so the last of the ones is carried, too.
        ones = [Move(("a",), ("x",)), Set(("x", "b"), 2, 6)]
        others = [Move(("a", "b"), ("y",)), Set(("a",), 1, 5)]
        self.assert_met(DOC, ones, others, [("move", ("a",), ("x",)), ("set", ("y",), 2, 6)],
                        [("move", ("x", "b"), ("y",)), ("set", ("x",), 1, 5)])

    def test_deeds_that_take_back_one_another(self):
        ones = [Put(("x",), 1), Cut(("x",), 1), Set((), 0, 1), Set((), 1, 0)]
        others = [Put(("y",), 1), Cut(("y",), 1)]
        self.assert_met(DOC, ones, others, row_told(ones), row_told(others))

    def test_one_path_made_in_turn_in_unlike_places(self):
        # The other puts ("a",) anew once it has gone; the one's Set goes with the old one.
        ones = [Set(("a",), 1, 6)]
        others = [Move(("a",), ("x",)), Put(("a",), 7), Set(("a",), 7, 8)]
        self.assert_met(DOC, ones, others, [("set", ("x",), 1, 6)], row_told(others))


class Clashed(GridCase):
    def test_one_cell(self):
        self.assert_clash(DOC, [Set((), 0, 1)], [Set((), 0, 2)], [(0, 0, ())])
        self.assert_clash(DOC, [Cut(("c",), 5)], [Put(("c", "x"), 0)], [(0, 0, ("c",))])
        self.assert_clash(DOC, [Move(("b",), ("a", "x"))], [Move(("a",), ("b", "x"))], [(0, 0, ("a",))])

    def test_a_row_and_itself(self):
        row = [Set(("a",), 1, 2), Put(("x",), 3), Move(("x",), ("y",))]
        self.assert_clash(DOC, row, row, [(0, 0, ("a",))])
        self.assert_clash(DOC, row[:1], list(row), [(0, 0, ("a",))])

    def test_first_and_last_cells(self):
        many = [Set((), 0, 1), Set((), 1, 2), Set((), 2, 3)]
        self.assert_clash(DOC, many + [Cut(("c",), 5)], [Set(("a",), 1, 2), Set(("c",), 5, 6)], [(3, 1, ("c",))])
        self.assert_clash(DOC, [Cut(("c",), 5)] + many, [Set(("c",), 5, 6), Set(("a",), 1, 2)], [(0, 0, ("c",))])
        self.assert_clash(DOC, many + [Cut(("c",), 5)], [Set(("c",), 5, 6), Set(("a",), 1, 2)], [(3, 0, ("c",))])
        self.assert_clash(DOC, [Cut(("c",), 5)] + many, [Set(("a",), 1, 2), Set(("c",), 5, 6)], [(0, 1, ("c",))])

    def test_several_cells_sorted(self):
        ones = [Set(("a",), 1, 2), Set(("b",), 4, 5), Set(("c",), 5, 6)]
        others = [Set(("c",), 5, 7), Set(("b",), 4, 7), Set(("a",), 1, 7)]
        self.assert_clash(DOC, ones, others, [(0, 2, ("a",)), (1, 1, ("b",)), (2, 0, ("c",))])

    def test_only_cells_that_have_both_their_deeds(self):
        # In the same order, the first clash leaves all cells right of it and below it without a deed.
        ones = [Set(("a",), 1, 2), Set(("b",), 4, 5), Set(("c",), 5, 6)]
        others = [Set(("a",), 1, 7), Set(("b",), 4, 7), Set(("c",), 5, 7)]
        self.assert_clash(DOC, ones, others, [(0, 0, ("a",))])
        self.assert_clash(DOC, ones, others[1:] + others[:1], [(0, 2, ("a",)), (1, 0, ("b",))])
        self.assert_clash(DOC, ones, [others[1], others[0], others[2]], [(0, 1, ("a",)), (1, 0, ("b",))])
        self.assert_clash(DOC, [Set((), 0, 1)] + ones, [others[2], others[0], others[1]],
                          [(1, 1, ("a",)), (3, 0, ("c",))])

    def test_the_part_is_a_path_of_the_cell(self):
        self.assert_clash(DOC, [Move(("a",), ("x",)), Set(("x",), 1, 2)], [Set(("a",), 1, 3)], [(1, 0, ("x",))])
        self.assert_clash(DOC, [Move(("a",), ("x",)), Set(("x", "b"), 2, 6)],
                          [Move(("a", "b"), ("c", "b")), Set(("c", "b"), 2, 7)], [(1, 1, ("c", "b"))])
        self.assert_clash(DOC, [Move(("a",), ("x",)), Put(("x", "y"), 6)],
                          [Move(("b",), ("y",)), Put(("a", "y"), 7)], [(1, 1, ("x", "y"))])
        # The lesser one of both paths, as they are in the cell.
        self.assert_clash(DOC, [Move(("a",), ("z",)), Move(("z",), ("b", "z"))], [Move(("b",), ("a", "x"))],
                          [(1, 0, ("b",))])

    def test_moves_that_clash_only_as_they_became(self):
        ones = [Move(("a",), ("b", "a"))]
        others = [Move(("b",), ("c", "b")), Move(("c",), ("a", "c"))]
        self.assert_clash(DOC, ones, others, [(0, 1, ("a",))])

    def test_the_root_as_the_part_among_others(self):
        self.assert_clash(DOC, [Put(("x",), 1), Set((), 0, 1)], [Set((), 0, 2), Put(("x",), 2)],
                          [(0, 1, ("x",)), (1, 0, ())])


class ByMeaning(GridCase):
    def cells_of(self, doc, ones, others):
        """The clashes by the words of [16], with a look whether both deeds of each cell fit one document."""
        across, down, docs = {}, {}, {(0, 0): doc}
        cells = []
        for i in range(len(ones)):
            for j in range(len(others)):
                one = ones[i] if j == 0 else across.get((i, j))
                other = others[j] if i == 0 else down.get((i, j))
                if one is None or other is None:
                    continue
                here = row_done(doc, ones[:i] + [down[i, k] if i else others[k] for k in range(j)])
                self.assertTrue(one.fits(here) and other.fits(here))
                if clash(one, other) is not None:
                    cells.append((i, j, clash(one, other)))
                else:
                    across[i, j + 1] = behind(one, other)
                    down[i + 1, j] = behind(other, one)
        return cells, across, down

    def test_many_rows(self):
        source = random.Random(23)
        met = several = 0
        for _ in range(2000):
            doc = some_doc(source, source.randrange(2, 12))
            ones = fitting_row(source, doc, source.randrange(0, 6))
            others = fitting_row(source, doc, source.randrange(0, 6))
            cells, across, down = self.cells_of(doc, ones, others)
            answer = self.asked(doc, ones, others)
            several += len(cells) > 1
            if cells:
                self.assertEqual(answer, ("clash", cells))
            else:
                met += len(ones) > 1 and len(others) > 1
                last = len(ones), len(others)
                self.assertEqual(row_told(answer[1]), [(across[i, last[1]] if others else ones[i]).told()
                                                       for i in range(last[0])])
                self.assertEqual(row_told(answer[2]), [(down[last[0], j] if ones else others[j]).told()
                                                       for j in range(last[1])])
        self.assertGreater(met, 100)
        self.assertGreater(several, 50)

    def test_told_are_the_cells_ahead_of_which_the_rows_meet(self):
        source = random.Random(24)
        for _ in range(100):
            doc = some_doc(source, source.randrange(2, 9))
            ones, others = fitting_row(source, doc, 4), fitting_row(source, doc, 4)
            wanted = []
            for i in range(4):
                for j in range(4):
                    ahead = grid(ones[:i], others[:j + 1])[0], grid(ones[:i + 1], others[:j])[0]
                    if ahead == ("met", "met") and grid(ones[:i + 1], others[:j + 1])[0] == "clash":
                        wanted.append((i, j))
            answer = grid(ones, others)
            self.assertEqual([(i, j) for i, j, _ in answer[1]] if answer[0] == "clash" else [], wanted)

    def test_three_rows(self):
        source = random.Random(25)
        seen = 0
        for _ in range(1500):
            doc = some_doc(source, source.randrange(4, 12))
            a, b, c = [fitting_row(source, doc, source.randrange(1, 4)) for _ in range(3)]
            with_b, with_c, between = grid(a, b), grid(a, c), grid(b, c)
            if not with_b[0] == with_c[0] == between[0] == "met":
                continue
            last = grid(with_b[1], between[2])
            again = grid(with_c[1], between[1])
            if last[0] == again[0] == "met":
                seen += 1
                self.assertEqual(row_told(last[1]), row_told(again[1]))
        self.assertGreater(seen, 100)


class OwnersAndBounds(GridCase):
    def test_changed_afterwards(self):
        for ones, others in (([], []), ([Set((), 0, 1)], []), ([], [Set((), 0, 1)]),
                             ([Set((), 0, 1)], [Put(("x",), 1)]), ([Move(("a",), ("x",))], [Put(("a", "x"), 1)]),
                             ([Set((), 0, 1)], [Set((), 0, 2)])):
            kept = list(ones), list(others)
            answer = grid(ones, others)
            first = told(answer) if answer[0] == "met" else ("clash", list(answer[1]))
            # Their owner changes the rows.
            for row in (ones, others):
                row.append(Put(("z",), 1))
                row[0] = Cut(("c",), 5)
            self.assertEqual(told(answer), first)
            # The asker changes the answer.
            ones[:], others[:] = kept
            for each in answer[1:]:
                each.append("more")
                each[0] = "less"
            self.assertEqual((ones, others), kept)
            self.assertEqual(told(grid(ones, others)), first)

    def test_no_list_stands_twice_in_an_answer(self):
        row = []
        answer = grid(row, row)
        self.assertEqual(answer, ("met", [], []))
        self.assertIsNot(answer[1], answer[2])
        self.assertIsNot(answer[1], row)
        self.assertIsNot(answer[2], row)

    def test_sixty_deeds_each_and_forty_names(self):
        doc = great_doc()
        long = ("a",) * 40
        ones = [Set(long, 40 + turn, 41 + turn) for turn in range(60)]
        others = []
        for _ in range(20):
            others += [Move(("a",), ("z",)), Move(("z",), ("y",)), Move(("y",), ("a",))]
        self.assert_met(doc, ones, others, row_told(ones), row_told(others))
        wanted = [("set", ("y",) + long[1:], 40 + turn, 41 + turn) for turn in range(60)]
        self.assert_met(doc, ones, others[:-1], wanted, row_told(others[:-1]))
        self.assert_clash(doc, ones, others[:-1] + [Cut(("y",) + long[1:], 40)], [(0, 59, ("y",) + long[1:])])

    def test_four_hundred_deeds_each(self):
        # The rows of ways may be as long, and they are put into grids later on.
        ones = [Set((), turn, turn + 1) for turn in range(400)]
        others = [Move(("a",), ("b",)), Move(("b",), ("a",))] * 200
        doc = {(): 0, ("a",): 0}
        self.assertEqual(told(grid(ones, others)), ("met", row_told(ones), row_told(others)))
        self.assertEqual(row_done(row_done(doc, ones), others), {(): 400, ("a",): 0})


if __name__ == "__main__":
    unittest.main()
