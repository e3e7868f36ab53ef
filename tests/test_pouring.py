"""Promises [25], [26] and [27], what [3] says of boughs poured together, and [2] as far as it speaks of these."""

import random
import unittest

from boughback.boughs import Bough
from boughback.deeds import Cut, Move, Put, Set
from boughback.errors import BoughError, Clash, Hangs, NoDeed, NoStand
from boughback.grids import grid
from boughback.moving import along
from boughback.pouring import carry, pour, take_out
from boughback.rows import row_back, row_done, row_told
from boughback.taking import taken_out
from boughback.ways import meet, way_row
from samples import fitting_row, great_doc, some_doc, told_bough

GREAT = 10 ** 60 - 1
DOC = {(): 0, ("a",): 1, ("b",): 2, ("c",): 3, ("d",): 4}
NO_STANDS = (-1, -2, 100, GREAT, -GREAT, True, False)


def grown(stands, doc=None):
    """A bough with stands that are told as tuples (parent, row)."""
    bough = Bough(doc or DOC)
    for parent, row in stands:
        bough.grow(parent, row)
    return bough


def on_a_line(*rows):
    """A bough of one line with these rows."""
    return grown(enumerate(rows))


def copy_of(bough):
    """Another bough with the same stands."""
    return grown([(bough.parent(stand), bough.row(stand)) for stand in range(1, bough.many())], bough.doc(0))


def owner_of_each_deed(bough, stands):
    """The stand whose row has it, for each deed of these stands' rows."""
    return [stand for stand in stands for _ in bough.row(stand)]


def lower(bough, top, stand):
    """The stands below the top one on the line of the stand."""
    line = bough.line(stand)
    return line[line.index(top) + 1:]


def many_boughs(seed, many):
    """Boughs of several lines, in the documents of which deeds often leave one another in peace."""
    source = random.Random(seed)
    for _ in range(many):
        bough = Bough(some_doc(source, source.randrange(5, 14)))
        for number in range(1, source.randrange(3, 9)):
            parent = source.choice((number - 1, source.randrange(number)))
            bough.grow(parent, fitting_row(source, bough.doc(parent), source.randrange(1, 4)))
        yield bough


class PouringCase(unittest.TestCase):
    def assert_refused(self, wanted, ask, bough, *stands):
        """The refusal, after a look whether the bough is as it was."""
        before = told_bough(bough)
        with self.assertRaises(wanted) as caught:
            ask(bough, *stands)
        self.assertIs(type(caught.exception), wanted)
        self.assertIsInstance(caught.exception, BoughError)
        self.assertEqual(told_bough(bough), before, stands)
        return caught.exception

    def assert_at_and_part(self, wanted, ask, bough, stands, at, part):
        refusal = self.assert_refused(wanted, ask, bough, *stands)
        self.assertEqual((refusal.at, refusal.part), (at, part))
        self.assertEqual((type(refusal.at), type(refusal.part)), (int, tuple))

    def assert_only_grown(self, before, bough, stands):
        """What was there is as it was, and behind it are just these."""
        after = told_bough(bough)
        self.assertEqual(after[0][:len(before[0])], before[0])
        self.assertEqual(after[1], before[1])
        self.assertEqual(list(range(len(before[0]), bough.many())), stands)

    def assert_no_stand(self, ask, bough):
        for wrong in NO_STANDS + (bough.many(), -bough.many()):
            for stand in (0, 1, bough.many() - 1, wrong, -3):
                self.assert_refused(NoStand, ask, bough, wrong, stand)
                self.assert_refused(NoStand, ask, bough, stand, wrong)


class TakeOutCase(PouringCase):
    def assert_taken(self, bough, stand, gone, rows, row):
        """The new stands' rows and the told row are told so, and all else that [25] tells of them holds."""
        before = told_bough(bough)
        answer = take_out(bough, stand, gone)
        self.assertEqual((type(answer), [type(each) for each in answer]), (tuple, [list, list]))
        new = answer[0]
        self.assertTrue(all(type(each) is int for each in new))
        self.assert_only_grown(before, bough, new)
        ahead = [bough.parent(gone)] + new
        self.assertEqual([bough.parent(each) for each in new], ahead[:-1])
        self.assertEqual([row_told(bough.row(each)) for each in new], rows)
        self.assertEqual(row_told(answer[1]), row)
        self.assertEqual(row_done(bough.doc(ahead[-1]), answer[1]), bough.doc(stand))

    def assert_hangs(self, bough, stand, gone, at, part):
        self.assert_at_and_part(Hangs, take_out, bough, (stand, gone), at, part)


class TakeOut(TakeOutCase):
    def test_with_no_later_stand(self):
        rows = [Set(("a",), 1, 5), Put(("x",), 6)], [Move(("x",), ("y",)), Set(("a",), 5, 7), Cut(("y",), 6)]
        bough = on_a_line(*rows)
        self.assert_taken(bough, 2, 2, [], row_told(rows[1]))
        self.assert_taken(bough, 1, 1, [], row_told(rows[0]))
        self.assertEqual(bough.many(), 3)

    def test_with_one_later_stand(self):
        bough = on_a_line([Move(("a",), ("x",))], [Set(("x",), 1, 5), Put(("x", "y"), 6)])
        self.assert_taken(bough, 2, 1, [[("set", ("a",), 1, 5), ("put", ("a", "y"), 6)]], [("move", ("a",), ("x",))])
        self.assertEqual(bough.doc(3), {**DOC, ("a",): 5, ("a", "y"): 6})

    def test_with_several_later_stands(self):
        bough = on_a_line([Set((), 0, 1)], [Move(("a",), ("x",)), Set(("b",), 2, 5)], [Put(("x", "y"), 6)],
                          [Set(("c",), 3, 8), Cut(("d",), 4)], [Set(("x", "y"), 6, 7), Move(("c",), ("x", "c"))])
        self.assert_taken(bough, 5, 2, [[("put", ("a", "y"), 6)], [("set", ("c",), 3, 8), ("cut", ("d",), 4)],
                                        [("set", ("a", "y"), 6, 7), ("move", ("c",), ("a", "c"))]],
                          [("move", ("a",), ("x",)), ("set", ("b",), 2, 5)])
        self.assertEqual([bough.parent(stand) for stand in (6, 7, 8)], [1, 6, 7])
        self.assertEqual(bough.doc(8), {(): 1, ("a",): 1, ("a", "y"): 7, ("b",): 2, ("a", "c"): 8})

    def test_each_stand_of_a_line(self):
        rows = [Set((), 0, 1)], [Set(("a",), 1, 5), Put(("x",), 6)], [Cut(("b",), 2)], [Put(("d", "y"), 7)]
        told = [row_told(row) for row in rows]
        for gone in (1, 2, 3, 4):
            for stand in range(gone, 5):
                bough = on_a_line(*rows)
                self.assert_taken(bough, stand, gone, told[gone:stand], told[gone - 1])

    def test_the_told_row_is_carried_on(self):
        bough = on_a_line([Set(("a",), 1, 5), Put(("a", "x"), 6)], [Move(("a",), ("b", "a"))],
                          [Move(("b",), ("z",)), Set(("z",), 2, 3)])
        rows = [[("move", ("a",), ("b", "a"))], [("move", ("b",), ("z",)), ("set", ("z",), 2, 3)]]
        self.assert_taken(bough, 3, 1, rows,
                          [("set", ("z", "a"), 1, 5), ("put", ("z", "a", "x"), 6)])

    def test_one_with_other_lines_on_it(self):
        # The line 0, 1, 4, 5; on 1 stands 2, too, on which hangs 3.
        bough = grown([(0, [Put(("x",), 5)]), (1, [Set(("x",), 5, 6)]), (2, [Set(("x",), 6, 7)]),
                       (1, [Set(("a",), 1, 2)]), (4, [Set(("b",), 2, 3)])])
        bough.call("top", 5)
        self.assert_taken(bough, 5, 1, [[("set", ("a",), 1, 2)], [("set", ("b",), 2, 3)]], [("put", ("x",), 5)])
        self.assertEqual([bough.line(7), bough.called("top")], [[0, 6, 7], 5])
        # On the very parent, whose lines there may be several by now.
        self.assert_taken(bough, 7, 6, [[("set", ("b",), 2, 3)]], [("set", ("a",), 1, 2)])
        self.assertEqual(bough.line(8), [0, 8])

    def test_many_boughs(self):
        taken = several = hanging = 0
        for bough in many_boughs(48, 250):
            for stand in range(1, bough.many()):
                for gone in bough.line(stand)[1:]:
                    later = lower(bough, gone, stand)
                    try:
                        rows, row = self.one_by_one(bough, gone, later)
                    except Hangs:
                        hanging += 1
                        self.assert_hangs(copy_of(bough), stand, gone, *self.by_the_cells(bough, gone, later))
                    else:
                        taken += 1
                        several += len(later) > 1 and len(row) > 1
                        self.assert_taken(copy_of(bough), stand, gone, rows, row)
        self.assertGreater(min(taken, hanging), 200)
        self.assertGreater(several, 50)

    def one_by_one(self, bough, gone, later):
        """What comes of the deeds of gone taken out of the one row by themselves [18], the last one first."""
        owners = owner_of_each_deed(bough, later)
        row = bough.row(gone) + [deed for each in later for deed in bough.row(each)]
        told = []
        for at in range(len(bough.row(gone)) - 1, -1, -1):
            row, deed = taken_out(row, at)
            told.insert(0, deed.told())
        return [[deed.told() for deed, owner in zip(row, owners) if owner == each] for each in later], told

    def by_the_cells(self, bough, gone, later):
        """The stand and the part that [25] asks of the told cells."""
        owners = owner_of_each_deed(bough, later)
        cells = grid(row_back(bough.row(gone)), [deed for each in later for deed in bough.row(each)])[1]
        for stand in later:
            own = [cell for cell in cells if owners[cell[1]] == stand]
            if own:
                return stand, min(own)[2]


class TakeOutHangs(TakeOutCase):
    def test_on_one_deed(self):
        bough = on_a_line([Put(("x",), 5)], [Set(("a",), 1, 2)], [Set(("b",), 2, 3), Set(("x",), 5, 6)])
        self.assert_hangs(bough, 3, 1, 3, ("x",))
        self.assert_taken(bough, 2, 1, [[("set", ("a",), 1, 2)]], [("put", ("x",), 5)])

    def test_the_first_stand_of_the_line_is_told_though_its_cell_is_not_the_least(self):
        # The back cuts y, then x: the cells are (0, 1) with y and (1, 0) with x.
        bough = on_a_line([Put(("x",), 5), Put(("y",), 5)], [Set(("x",), 5, 6)], [Set(("y",), 5, 6)])
        self.assert_hangs(bough, 3, 1, 2, ("x",))
        self.assert_hangs(bough, 2, 1, 2, ("x",))

    def test_of_one_stand_the_part_of_the_least_cell_is_told(self):
        bough = on_a_line([Put(("x",), 5), Put(("y",), 5)], [Set(("x",), 5, 6), Set(("y",), 5, 6)])
        self.assert_hangs(bough, 2, 1, 2, ("y",))
        bough = on_a_line([Put(("x",), 5), Put(("y",), 5), Put(("z",), 5)], [Set(("a",), 1, 2)],
                          [Set(("b",), 2, 3), Set(("x",), 5, 6), Set(("y",), 5, 6)], [Set(("z",), 5, 6)])
        self.assert_hangs(bough, 4, 1, 3, ("y",))

    def test_the_stands_number_not_its_place(self):
        bough = grown([(0, [Set((), 0, 1)]), (0, [Put(("x",), 5)]), (1, [Set((), 1, 2)]), (2, [Set(("a",), 1, 2)]),
                       (3, [Set((), 2, 3)]), (4, [Set(("x",), 5, 6)])])
        self.assert_hangs(bough, 6, 2, 6, ("x",))

    def test_the_part_is_a_path_of_the_cell(self):
        bough = on_a_line([Put(("a", "x"), 5)], [Move(("a",), ("z",))], [Set(("z", "x"), 5, 6)])
        self.assert_hangs(bough, 3, 1, 3, ("z", "x"))
        bough = on_a_line([Put(("x",), 5)], [Move(("x",), ("y",))], [Set(("y",), 5, 6)])
        self.assert_hangs(bough, 3, 1, 2, ("x",))

    def test_on_the_root(self):
        bough = on_a_line([Set((), 0, 1)], [Put(("x",), 5)], [Set((), 1, 2)])
        self.assert_hangs(bough, 3, 1, 3, ())


class TakeOutRefusals(TakeOutCase):
    def setUp(self):
        # 0 has 1 and 4; 1 has 2; 2 has 3.
        self.bough = grown([(0, [Put(("x",), 5)]), (1, [Set(("x",), 5, 6)]), (2, [Set((), 0, 1)]),
                            (0, [Put(("y",), 5)])])

    def test_a_stand_that_is_not_there(self):
        # Ahead of NoDeed: each of these is on no line, and some stand with 0.
        self.assert_no_stand(take_out, self.bough)
        self.assert_refused(NoStand, take_out, self.bough, 5, 0)
        self.assert_refused(NoStand, take_out, self.bough, 0, 5)

    def test_stand_0(self):
        for stand in range(5):
            self.assert_refused(NoDeed, take_out, self.bough, stand, 0)

    def test_not_on_the_line(self):
        for stand, gone in ((0, 1), (0, 4), (1, 2), (1, 3), (2, 3), (3, 4), (4, 1), (4, 2), (4, 3), (2, 4)):
            self.assert_refused(NoDeed, take_out, self.bough, stand, gone)

    def test_hangs_behind_these(self):
        self.assert_hangs(self.bough, 2, 1, 2, ("x",))
        self.assert_hangs(self.bough, 3, 1, 2, ("x",))


class CarryCase(PouringCase):
    def assert_carried(self, bough, gone, stand, row):
        before = told_bough(bough)
        answer = carry(bough, gone, stand)
        self.assertIs(type(answer), int)
        self.assert_only_grown(before, bough, [answer])
        self.assertEqual(bough.parent(answer), stand)
        self.assertEqual(row_told(bough.row(answer)), row)
        self.assertEqual(bough.doc(answer), row_done(bough.doc(stand), bough.row(answer)))

    def assert_clash(self, bough, gone, stand, at, part):
        self.assert_at_and_part(Clash, carry, bough, (gone, stand), at, part)


class Carry(CarryCase):
    def test_onto_its_own_parent(self):
        rows = [Put(("x",), 5), Set(("x",), 5, 6)], [Set(("x",), 6, 7), Move(("x",), ("y",)), Cut(("y",), 7)]
        bough = on_a_line(*rows)
        self.assert_carried(bough, 2, 1, row_told(rows[1]))
        self.assert_carried(bough, 1, 0, row_told(rows[0]))
        self.assertEqual([bough.doc(stand) for stand in (3, 4)], [bough.doc(stand) for stand in (2, 1)])

    def test_onto_another_line(self):
        bough = grown([(0, [Set(("a",), 1, 5)]), (1, [Put(("a", "x"), 6), Set(("a", "x"), 6, 7)]),
                       (0, [Move(("a",), ("z",)), Set(("b",), 2, 3)]), (3, [Move(("z",), ("b", "z"))])])
        self.assert_carried(bough, 2, 4, [("put", ("b", "z", "x"), 6), ("set", ("b", "z", "x"), 6, 7)])
        self.assertEqual(bough.doc(5), {(): 0, ("b",): 3, ("b", "z"): 1, ("b", "z", "x"): 7, ("c",): 3, ("d",): 4})
        self.assert_carried(bough, 2, 3, [("put", ("z", "x"), 6), ("set", ("z", "x"), 6, 7)])
        self.assert_carried(bough, 3, 1, [("move", ("a",), ("z",)), ("set", ("b",), 2, 3)])
        self.assert_carried(bough, 1, 4, [("set", ("b", "z"), 1, 5)])

    def test_onto_stand_0(self):
        bough = on_a_line([Move(("a",), ("x",)), Set(("b",), 2, 5)], [Set((), 0, 1)],
                          [Set(("x",), 1, 6), Cut(("c",), 3)])
        self.assert_carried(bough, 3, 0, [("set", ("a",), 1, 6), ("cut", ("c",), 3)])
        self.assert_carried(bough, 2, 0, [("set", (), 0, 1)])
        self.assertEqual(bough.doc(4), {(): 0, ("a",): 6, ("b",): 2, ("d",): 4})

    def test_onto_one_above_its_parent(self):
        bough = on_a_line([Set((), 0, 1)], [Move(("a",), ("x",))], [Put(("x", "y"), 6)])
        self.assert_carried(bough, 3, 1, [("put", ("a", "y"), 6)])

    def test_many_boughs(self):
        carried = clashing = several = 0
        for bough in many_boughs(49, 150):
            for gone in range(1, bough.many()):
                for stand in range(bough.many()):
                    ones, others = bough.row(gone), way_row(bough, bough.parent(gone), stand)
                    answer = grid(ones, others)
                    if answer[0] == "met":
                        carried += 1
                        self.assert_carried(copy_of(bough), gone, stand, row_told(answer[1]))
                    else:
                        clashing += 1
                        several += len(answer[1]) > 1
                        at, i = min((j, i) for i, j, _ in answer[1])
                        part = [part for *cell, part in answer[1] if cell == [i, at]][0]
                        self.assert_clash(copy_of(bough), gone, stand, at, part)
        self.assertGreater(min(carried, clashing), 300)
        self.assertGreater(several, 30)

    def test_a_row_of_one_deed_is_moved_along_the_way(self):
        carried = clashing = 0
        for bough in many_boughs(50, 100):
            for gone in range(1, bough.many()):
                for stand in range(bough.many()):
                    if len(bough.row(gone)) > 1:
                        continue
                    way = way_row(bough, bough.parent(gone), stand)
                    try:
                        deed = along(bough.row(gone)[0], way)
                    except Clash as refusal:
                        clashing += 1
                        self.assert_clash(copy_of(bough), gone, stand, refusal.at, refusal.part)
                    else:
                        carried += 1
                        self.assert_carried(copy_of(bough), gone, stand, [deed.told()])
        self.assertGreater(min(carried, clashing), 100)


class CarryClashes(CarryCase):
    def test_onto_itself_and_onto_those_below_it(self):
        bough = on_a_line([Set((), 0, 1)], [Set(("a",), 1, 5), Put(("x",), 6)], [Set(("b",), 2, 3)], [Cut(("c",), 3)])
        for stand in (2, 3, 4):
            self.assert_clash(bough, 2, stand, 0, ("a",))
        for stand in (1, 2, 3, 4):
            self.assert_clash(bough, 1, stand, 0, ())
        self.assert_clash(bough, 4, 4, 0, ("c",))

    def test_the_cell_with_the_least_j_of_several(self):
        bough = grown([(0, [Set(("a",), 1, 5), Set(("b",), 2, 5)]), (0, [Set(("b",), 2, 6)]), (2, [Set(("a",), 1, 6)])])
        self.assert_clash(bough, 1, 3, 0, ("b",))
        bough = grown([(0, [Set(("a",), 1, 5), Set(("b",), 2, 5), Set(("c",), 3, 5)]), (0, [Put(("x",), 0)]),
                       (2, [Set(("c",), 3, 6), Set(("b",), 2, 6)]), (3, [Set(("a",), 1, 6)])])
        self.assertEqual(grid(bough.row(1), way_row(bough, 0, 4)),
                         ("clash", [(0, 3, ("a",)), (1, 2, ("b",)), (2, 1, ("c",))]))
        self.assert_clash(bough, 1, 4, 1, ("c",))

    def test_with_a_back_on_the_way_up(self):
        bough = on_a_line([Put(("x",), 5), Set(("a",), 1, 9)], [Set(("b",), 2, 3)], [Set((), 0, 1), Set(("x",), 5, 6)])
        # Ahead of the back that cuts x go those of the Sets of b and of a.
        self.assert_clash(bough, 3, 0, 2, ("x",))
        self.assert_carried(bough, 3, 1, [("set", (), 0, 1), ("set", ("x",), 5, 6)])

    def test_the_part_is_a_path_of_the_cell(self):
        bough = grown([(0, [Move(("a",), ("x",)), Set(("x",), 1, 5)]), (0, [Set(("b",), 2, 3), Set(("a",), 1, 6)])])
        self.assert_clash(bough, 1, 2, 1, ("x",))

    def test_on_the_root(self):
        bough = grown([(0, [Set((), 0, 1)]), (0, [Put(("x",), 2), Set((), 0, 2)])])
        self.assert_clash(bough, 1, 2, 1, ())


class CarryRefusals(CarryCase):
    def test_a_stand_that_is_not_there(self):
        # Ahead of NoDeed: some of these are told with stand 0.
        bough = on_a_line([Put(("x",), 5)], [Set(("x",), 5, 6)])
        self.assert_no_stand(carry, bough)
        self.assert_refused(NoStand, carry, bough, 0, 3)
        self.assert_refused(NoStand, carry, bough, 3, 0)

    def test_stand_0(self):
        bough = on_a_line([Put(("x",), 5)], [Set(("x",), 5, 6)])
        for stand in range(3):
            self.assert_refused(NoDeed, carry, bough, 0, stand)
        self.assert_refused(NoDeed, carry, Bough(DOC), 0, 0)


class PourCase(PouringCase):
    def poured(self, bough, one, other):
        """The answer, after a look at its kinds."""
        answer = pour(bough, one, other)
        self.assertIs(type(answer), tuple)
        if answer[0] == "met":
            self.assertEqual([type(each) for each in answer], [str, int, int])
        else:
            self.assertEqual([type(each) for each in answer], [str, list])
            for each in answer[1]:
                self.assertEqual((type(each), [type(part) for part in each]), (tuple, [int, int, tuple]))
        return answer

    def assert_nothing_grown(self, bough, one, other, wanted):
        before = told_bough(bough)
        self.assertEqual(self.poured(bough, one, other), wanted)
        self.assertEqual(told_bough(bough), before)

    def assert_met(self, bough, one, other, on_one, on_other):
        """Both new stands, from either side, with these told rows."""
        for left, right, first, second in ((one, other, on_one, on_other), (other, one, on_other, on_one)):
            this = copy_of(bough)
            before = told_bough(this)
            answer = self.poured(this, left, right)
            new, newer = bough.many(), bough.many() + 1
            self.assertEqual(answer, ("met", new, newer))
            self.assert_only_grown(before, this, [new, newer])
            self.assertEqual((this.parent(new), this.parent(newer)), (left, right))
            self.assertEqual((row_told(this.row(new)), row_told(this.row(newer))), (first, second))
            self.assertEqual(this.doc(new), this.doc(newer))

    def assert_clash(self, bough, one, other, clashes):
        """These clashes, from either side, and nothing grown."""
        self.assertEqual(clashes, sorted(set(clashes)))
        self.assert_nothing_grown(bough, one, other, ("clash", clashes))
        self.assert_nothing_grown(bough, other, one, ("clash", sorted((b, a, part) for a, b, part in clashes)))


class PourMet(PourCase):
    def test_a_stand_and_itself(self):
        bough = on_a_line([Put(("x",), 5)], [Set(("x",), 5, 6)])
        for stand in range(3):
            self.assert_nothing_grown(bough, stand, stand, ("met", stand, stand))

    def test_one_on_the_line_of_the_other(self):
        bough = grown([(0, [Put(("x",), 5)]), (1, [Set(("x",), 5, 6)]), (0, [Set((), 0, 1)]), (2, [Cut(("x",), 6)])])
        for upper, far in ((0, 1), (0, 2), (0, 3), (0, 4), (1, 2), (1, 4), (2, 4)):
            self.assert_nothing_grown(bough, upper, far, ("met", far, far))
            self.assert_nothing_grown(bough, far, upper, ("met", far, far))

    def test_two_lines(self):
        bough = grown([(0, [Move(("a",), ("x",))]), (1, [Set(("x",), 1, 5)]),
                       (0, [Put(("a", "y"), 6), Set(("b",), 2, 7)])])
        self.assert_met(bough, 2, 3, [("put", ("x", "y"), 6), ("set", ("b",), 2, 7)],
                        [("move", ("a",), ("x",)), ("set", ("x",), 1, 5)])
        self.assertEqual(pour(bough, 2, 3), ("met", 4, 5))
        self.assertEqual(bough.doc(4), {(): 0, ("b",): 7, ("c",): 3, ("d",): 4, ("x",): 5, ("x", "y"): 6})
        self.assertEqual((bough.line(4), bough.line(5)), ([0, 1, 2, 4], [0, 3, 5]))

    def test_several_stands_on_each_make_one_row(self):
        bough = grown([(0, [Set((), 0, 1)]), (1, [Set(("a",), 1, 5)]), (2, [Move(("a",), ("b", "a")), Put(("x",), 1)]),
                       (1, [Put(("a", "y"), 6)]), (4, [Set(("c",), 3, 4)]), (5, [Move(("b",), ("z",))])])
        self.assert_met(bough, 3, 6, [("put", ("b", "a", "y"), 6), ("set", ("c",), 3, 4), ("move", ("b",), ("z",))],
                        [("set", ("a",), 1, 5), ("move", ("a",), ("z", "a")), ("put", ("x",), 1)])

    def test_poured_on(self):
        bough = grown([(0, [Set(("a",), 1, 5)]), (0, [Set(("b",), 2, 5)]), (0, [Set(("c",), 3, 5)])])
        bough.call("one", 1)
        self.assertEqual(pour(bough, 1, 2), ("met", 4, 5))
        self.assertEqual(pour(bough, 5, 3), ("met", 6, 7))
        self.assertEqual(bough.doc(7), {(): 0, ("a",): 5, ("b",): 5, ("c",): 5, ("d",): 4})
        self.assertEqual(row_told(bough.row(7)), [("set", ("b",), 2, 5), ("set", ("a",), 1, 5)])
        # Though their documents are one, the rows of the two new stands are told as clashes.
        self.assertEqual(pour(bough, 4, 5), ("clash", [(1, 5, ("a",)), (4, 2, ("b",))]))
        self.assertEqual(bough.called("one"), 1)

    def test_many_boughs(self):
        met = clashing = several = 0
        for bough in many_boughs(51, 450):
            for one in range(bough.many()):
                for other in range(one, bough.many()):
                    top = meet(bough, one, other)
                    if top in (one, other):
                        self.assert_nothing_grown(bough, one, other, ("met", other, other))
                        self.assert_nothing_grown(bough, other, one, ("met", other, other))
                        continue
                    left, right = lower(bough, top, one), lower(bough, top, other)
                    answer = grid(*[[deed for stand in line for deed in bough.row(stand)] for line in (left, right)])
                    if answer[0] == "met":
                        met += 1
                        self.assert_met(bough, one, other, row_told(answer[2]), row_told(answer[1]))
                    else:
                        clashing += 1
                        owners = owner_of_each_deed(bough, left), owner_of_each_deed(bough, right)
                        clashes = sorted({(owners[0][i], owners[1][j], part) for i, j, part in answer[1]})
                        several += len(clashes) > 1
                        self.assert_clash(bough, one, other, clashes)
        self.assertGreater(min(met, clashing), 150)
        self.assertGreater(several, 30)


class PourClashes(PourCase):
    def test_one_cell(self):
        bough = grown([(0, [Set((), 0, 1)]), (0, [Set((), 0, 2)])])
        self.assert_clash(bough, 1, 2, [(1, 2, ())])

    def test_the_same_row_twice(self):
        row = [Put(("x",), 1), Set(("a",), 1, 2)]
        self.assert_clash(grown([(0, row), (0, row)]), 1, 2, [(1, 2, ("x",))])

    def test_the_stands_whose_rows_have_the_deeds(self):
        # The lines 0, 1, 3, 5 and 0, 2, 4, 6.
        bough = grown([(0, [Set(("a",), 1, 5)]), (0, [Set(("d",), 4, 6), Set(("c",), 3, 6)]),
                       (1, [Set((), 0, 1), Set(("b",), 2, 5)]), (2, [Set(("b",), 2, 6)]),
                       (3, [Set(("c",), 3, 5)]), (4, [Set(("a",), 1, 6)])])
        self.assert_clash(bough, 5, 6, [(1, 6, ("a",)), (3, 4, ("b",)), (5, 2, ("c",))])
        self.assert_clash(bough, 3, 4, [(3, 4, ("b",))])
        self.assert_clash(bough, 5, 4, [(3, 4, ("b",)), (5, 2, ("c",))])

    def test_sorted_by_stands_not_by_cells(self):
        bough = grown([(0, [Set(("a",), 1, 5), Set(("b",), 2, 5), Set(("c",), 3, 5)]),
                       (0, [Set(("c",), 3, 6)]), (2, [Set(("b",), 2, 6)]), (3, [Set(("a",), 1, 6)])])
        self.assert_clash(bough, 1, 4, [(1, 2, ("c",)), (1, 3, ("b",)), (1, 4, ("a",))])

    def test_sorted_by_parts_where_the_stands_are_the_same(self):
        bough = grown([(0, [Set(("c",), 3, 5), Set(("b",), 2, 5), Set(("a",), 1, 5)]),
                       (0, [Set(("a",), 1, 6), Set(("b",), 2, 6), Set(("c",), 3, 6)])])
        self.assert_clash(bough, 1, 2, [(1, 2, ("a",)), (1, 2, ("b",)), (1, 2, ("c",))])

    def test_each_once(self):
        # Both the cell (0, 1) and the cell (1, 0) have the part x.
        ones = [Move(("a",), ("x",)), Set(("x",), 1, 2)]
        others = [Set(("a",), 1, 3), Put(("x",), 9)]
        self.assertEqual(grid(ones, others), ("clash", [(0, 1, ("x",)), (1, 0, ("x",))]))
        self.assert_clash(grown([(0, ones), (0, others)]), 1, 2, [(1, 2, ("x",))])
        self.assert_clash(grown([(0, ones), (0, others[:1]), (2, others[1:])]), 1, 3, [(1, 2, ("x",)), (1, 3, ("x",))])

    def test_below_where_they_meet(self):
        # Ahead of the stand 2, where they meet, nothing counts.
        bough = grown([(0, [Set(("a",), 1, 5)]), (1, [Put(("x",), 1)]), (2, [Set(("a",), 5, 6)]),
                       (2, [Set(("x",), 1, 2), Set(("a",), 5, 7)])])
        self.assert_clash(bough, 3, 4, [(3, 4, ("a",))])


class PourRefusals(PourCase):
    def test_a_stand_that_is_not_there(self):
        bough = grown([(0, [Put(("x",), 5)]), (0, [Set((), 0, 6)])])
        self.assert_no_stand(pour, bough)


class OwnersAndBounds(TakeOutCase):
    def test_what_is_told_belongs_to_its_asker(self):
        rows = [Set(("a",), 1, 5), Put(("x",), 6)], [Set(("b",), 2, 3)], [Set(("c",), 3, 4)]
        for stand, gone in ((3, 1), (3, 2), (3, 3), (1, 1)):
            bough = on_a_line(*rows)
            new, row = take_out(bough, stand, gone)
            kept, told, after = list(new), row_told(row), told_bough(bough)
            new.append(0)
            new[0] = 100
            row.append(Put(("y",), 1))
            row[0] = Put(("z",), 1)
            self.assertEqual(told_bough(bough), after)
            again = take_out(bough, stand, gone)
            self.assertEqual(row_told(again[1]), told)
            self.assertEqual(again[0], [each + len(kept) for each in kept])

    def test_told_clashes_belong_to_their_asker(self):
        bough = grown([(0, [Set((), 0, 1)]), (0, [Set((), 0, 2)])])
        answer = pour(bough, 1, 2)
        answer[1].append("more")
        answer[1][0] = "less"
        self.assertEqual(pour(bough, 1, 2), ("clash", [(1, 2, ())]))

    def test_what_is_grown_later_reaches_no_answer(self):
        bough = on_a_line([Set(("a",), 1, 5)], [Set(("b",), 2, 3)])
        answer = take_out(bough, 2, 1)
        bough.grow(3, [Put(("x",), 1)])
        self.assertEqual((answer[0], row_told(answer[1])), ([3], [("set", ("a",), 1, 5)]))

    def test_new_stands_share_no_row_with_old_ones(self):
        bough = grown([(0, [Set(("a",), 1, 5)]), (1, [Set(("b",), 2, 5)]), (0, [Set(("c",), 3, 5)])])
        take_out(bough, 2, 1)
        carry(bough, 2, 3)
        pour(bough, 2, 3)
        kept = told_bough(bough)
        for stand in range(bough.many()):
            bough.row(stand).append(Put(("x",), 1))
            bough.doc(stand).clear()
            bough.line(stand).clear()
        self.assertEqual(told_bough(bough), kept)

    def test_a_line_of_four_hundred_deeds(self):
        # 57 stands, of seven deeds each but the first, which moves the path of forty names.
        bough = Bough(great_doc())
        bough.grow(0, [Move(("a",), ("zz",)), Set(("ba",), 1, GREAT)])
        long = ("zz",) + ("a",) * 39
        told = []
        for stand in range(1, 57):
            number = stand * 6
            row = [Set(long, number + 34 + turn, number + 35 + turn) for turn in range(6)] + [Set((), stand - 1, stand)]
            bough.grow(stand, row)
            told.append([("set", ("a",) * 40) + deed[2:] for deed in row_told(row[:6])] + row_told(row[6:]))
        self.assertEqual(len(way_row(bough, 0, 57)), 394)
        self.assert_taken(bough, 57, 1, told, [("move", ("a",), ("zz",)), ("set", ("ba",), 1, GREAT)])
        self.assertEqual(bough.many(), 114)
        new = bough.grow(57, [Set(("zz",), 1, 2), Set((), 56, 57)])
        self.assert_at_and_part(Clash, carry, bough, (new, 0), 0, ())
        new = bough.grow(57, [Set(("zz",), 1, 2), Cut(("bb",), 1)])
        newer = carry(bough, new, 0)
        self.assertEqual(row_told(bough.row(newer)), [("set", ("a",), 1, 2), ("cut", ("bb",), 1)])

    def test_two_lines_of_two_hundred_deeds(self):
        doc = great_doc()
        bough = Bough(doc)
        for turn in range(50):
            bough.grow(turn, [Move(("a",), ("zz",)), Set((), turn, turn + 1), Move(("zz",), ("a",)),
                              Set(("ba",), turn + 1, turn + 2)])
        stand = 0
        for turn in range(50):
            stand = bough.grow(stand, [Set(("a",) * 40, 40 + 2 * turn, 41 + 2 * turn), Set(("bb",), turn + 1, turn + 2),
                                       Set(("a",) * 40, 41 + 2 * turn, 42 + 2 * turn), Set(("a",), turn + 1, turn + 2)])
        self.assertEqual(pour(bough, 50, 100), ("met", 101, 102))
        self.assertEqual(bough.doc(101), {**doc, (): 50, ("ba",): 51, ("bb",): 51, ("a",): 51, ("a",) * 40: 140})
        self.assertEqual(bough.doc(102), bough.doc(101))
        new = bough.grow(100, [Set(("ba",), 1, 0)])
        self.assertEqual(pour(bough, 50, new), ("clash", [(1, new, ("ba",))]))


if __name__ == "__main__":
    unittest.main()
