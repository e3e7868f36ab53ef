"""Promises [18], [19] and [20], what [3] says of deeds in the midst, and [2] as far as it speaks of these."""

import random
import unittest

from boughback.deeds import Cut, Move, Put, Set, deed_of
from boughback.errors import BoughError, Clash, Hangs, NoDeed
from boughback.grids import grid
from boughback.moving import along, clash, moved
from boughback.rows import row_done, row_fits, row_told
from boughback.taking import parted, put_in, taken_out
from samples import fitting_deed, fitting_row, great_doc, some_doc

GREAT = 10 ** 60 - 1
DOC = {(): 0, ("a",): 1, ("a", "b"): 2, ("ab",): 3, ("b",): 4, ("c",): 5}
NO_NUMBERS = (-1, -2, -GREAT, GREAT, True, False)


def many_rows(seed, many):
    """Documents, each with a row that fits it."""
    source = random.Random(seed)
    for _ in range(many):
        doc = some_doc(source, source.randrange(1, 9))
        yield source, doc, fitting_row(source, doc, source.randrange(1, 8))


class TakingCase(unittest.TestCase):
    def assert_hangs(self, ask, arguments, at, part):
        kept = list(arguments[0])
        with self.assertRaises(Hangs) as caught:
            ask(*arguments)
        self.assertIs(type(caught.exception), Hangs)
        self.assertIsInstance(caught.exception, BoughError)
        self.assertEqual((caught.exception.at, caught.exception.part), (at, part))
        self.assertEqual((type(caught.exception.at), type(caught.exception.part)), (int, tuple))
        self.assertEqual(arguments[0], kept)

    def assert_no_deed(self, ask, *arguments):
        kept = list(arguments[0])
        with self.assertRaises(NoDeed) as caught:
            ask(*arguments)
        self.assertIs(type(caught.exception), NoDeed)
        self.assertEqual(arguments[0], kept)

    def assert_taken(self, doc, row, at, wanted, deed):
        kept = list(row)
        answer = taken_out(row, at)
        self.assertEqual((type(answer), len(answer), type(answer[0])), (tuple, 2, list))
        self.assertEqual((row_told(answer[0]), answer[1].told()), (wanted, deed))
        self.assertEqual(row, kept)
        left = row_done(doc, answer[0])
        self.assertEqual(answer[1].done(left), row_done(doc, row))
        self.assertEqual(row_told(put_in(answer[0], at, answer[1])), row_told(row))

    def assert_put(self, doc, row, at, deed, wanted):
        kept, told = list(row), deed.told()
        answer = put_in(row, at, deed)
        self.assertIs(type(answer), list)
        self.assertEqual(row_told(answer), wanted)
        self.assertEqual((row, deed.told()), (kept, told))
        self.assertEqual(row_done(doc, answer), row_done(doc, row + [deed]))
        again = taken_out(answer, at)
        self.assertEqual((row_told(again[0]), again[1].told()), (row_told(row), told))

    def assert_parted(self, doc, row, at, rest, out, reasons):
        kept = list(row)
        answer = parted(row, at)
        self.assertEqual((type(answer), [type(each) for each in answer]), (tuple, [list] * 3))
        self.assertEqual((row_told(answer[0]), row_told(answer[1]), answer[2]), (rest, out, reasons))
        self.assertEqual([(type(each), len(each)) for each in answer[2]], [(tuple, 2)] * (len(out) - 1))
        self.assertEqual(row, kept)
        self.assertEqual(row_done(doc, answer[0] + answer[1]), row_done(doc, row))


class TakenOut(TakingCase):
    def test_each_number_of_a_row_of_which_nothing_hangs(self):
        row = [Set(("a", "b"), 2, 6), Move(("a",), ("x",)), Put(("c", "y"), 7), Move(("c",), ("x", "c"))]
        told = row_told(row)
        self.assert_taken(DOC, row, 0, told[1:], ("set", ("x", "b"), 2, 6))
        self.assert_taken(DOC, row, 2, told[:2] + told[3:], ("put", ("x", "c", "y"), 7))
        self.assert_taken(DOC, row, 3, told[:3], told[3])
        # Of the Move later ones are carried back, but the last one's goal lies below where it led.
        self.assert_taken(DOC, row, 1, [told[0], told[2], ("move", ("c",), ("a", "c"))], ("move", ("a",), ("x",)))

    def test_a_row_of_one(self):
        for deed in (Put(("x",), 1), Cut(("c",), 5), Set((), 0, 1), Move(("a",), ("x",))):
            self.assert_taken(DOC, [deed], 0, [], deed.told())

    def test_the_last_one(self):
        row = [Put(("x",), 1), Set(("x",), 1, 2), Move(("x",), ("y",))]
        self.assert_taken(DOC, row, 2, row_told(row[:2]), ("move", ("x",), ("y",)))

    def test_later_ones_are_carried_where_it_never_was(self):
        row = [Move(("a",), ("x",)), Set(("x",), 1, 6), Put(("x", "y"), 7), Move(("x", "b"), ("x", "y", "b"))]
        self.assert_taken(DOC, row, 0, [("set", ("a",), 1, 6), ("put", ("a", "y"), 7),
                                        ("move", ("a", "b"), ("a", "y", "b"))], ("move", ("a",), ("x",)))

    def test_the_deed_goes_where_later_ones_carry_it(self):
        row = [Put(("a", "x"), 7), Move(("a",), ("y",)), Move(("y", "x"), ("z",))]
        self.assert_hangs(taken_out, (row, 0), 2, ("y", "x"))
        self.assert_taken(DOC, row[:2] + [Move(("y",), ("z",))], 0,
                          [("move", ("a",), ("y",)), ("move", ("y",), ("z",))], ("put", ("z", "x"), 7))
        self.assert_taken(DOC, [Set(("a", "b"), 2, 6), Move(("a", "b"), ("z",)), Move(("a",), ("z", "a"))], 0,
                          [("move", ("a", "b"), ("z",)), ("move", ("a",), ("z", "a"))], ("set", ("z",), 2, 6))

    def test_what_hangs(self):
        self.assert_hangs(taken_out, ([Put(("x",), 1), Put(("x", "y"), 2)], 0), 1, ("x",))
        self.assert_hangs(taken_out, ([Put(("x",), 1), Set((), 0, 1), Set(("x",), 1, 2)], 0), 2, ("x",))
        self.assert_hangs(taken_out, ([Put(("x",), 1), Cut(("x",), 1)], 0), 1, ("x",))
        self.assert_hangs(taken_out, ([Put(("x",), 1), Move(("x",), ("y",))], 0), 1, ("x",))
        self.assert_hangs(taken_out, ([Put(("x",), 1), Move(("a",), ("x", "a"))], 0), 1, ("x",))
        self.assert_hangs(taken_out, ([Cut(("c",), 5), Put(("c",), 6)], 0), 1, ("c",))
        self.assert_hangs(taken_out, ([Cut(("c",), 5), Move(("a",), ("c",))], 0), 1, ("c",))
        self.assert_hangs(taken_out, ([Cut(("a", "b"), 2), Cut(("a",), 1)], 0), 1, ("a",))
        self.assert_hangs(taken_out, ([Set((), 0, 1), Set((), 1, 0)], 0), 1, ())
        self.assert_hangs(taken_out, ([Set(("c",), 5, 6), Cut(("c",), 6)], 0), 1, ("c",))
        self.assert_hangs(taken_out, ([Move(("a",), ("x",)), Put(("a",), 6)], 0), 1, ("a",))
        self.assert_hangs(taken_out, ([Move(("a",), ("x",)), Move(("b",), ("a",))], 0), 1, ("a",))
        self.assert_hangs(taken_out, ([Move(("a",), ("x",)), Move(("x",), ("y",))], 0), 1, ("x",))
        self.assert_hangs(taken_out, ([Move(("a", "b"), ("b", "x")), Move(("a",), ("b", "x", "a"))], 0), 1, ("a",))

    def test_the_first_of_several_that_hang(self):
        row = [Set((), 0, 1), Put(("x",), 1), Set(("a",), 1, 2), Set(("x",), 1, 3), Put(("x", "y"), 4), Cut(("c",), 5)]
        self.assert_hangs(taken_out, (row, 1), 3, ("x",))
        self.assert_hangs(taken_out, (row[:3] + [Put(("x", "y"), 4), Set(("x",), 1, 3)], 1), 3, ("x",))

    def test_the_part_is_a_path_right_ahead_of_what_hangs(self):
        row = [Put(("a", "x"), 7), Move(("a",), ("y",)), Move(("y",), ("z",)), Set(("z", "x"), 7, 8),
               Move(("z",), ("w",))]
        self.assert_hangs(taken_out, (row, 0), 3, ("z", "x"))
        # The later ones as they became do not tell it: without the Move this would be ("a", "y").
        row = [Move(("a",), ("x",)), Put(("x", "y"), 1), Set(("x", "y"), 1, 2)]
        self.assert_hangs(taken_out, (row, 1), 2, ("x", "y"))
        # The lesser one of both paths, right ahead of the Move that hangs.
        row = [Move(("a", "b"), ("b", "x")), Move(("b",), ("z",)), Move(("a",), ("z", "x", "a"))]
        self.assert_hangs(taken_out, (row, 0), 2, ("a",))

    def test_nothing_hangs_though_paths_are_told_alike(self):
        # The later Put is of another part, since the first one has gone.
        row = [Put(("x",), 1), Move(("a",), ("y",)), Put(("a",), 1), Set(("a",), 1, 2)]
        self.assert_taken(DOC, row, 0, row_told(row[1:]), ("put", ("x",), 1))
        row = [Set(("a",), 1, 6), Move(("a",), ("y",)), Put(("a",), 6), Set(("a",), 6, 7)]
        self.assert_taken(DOC, row, 0, row_told(row[1:]), ("set", ("y",), 1, 6))

    def test_by_the_words(self):
        taken = hanging = 0
        for _, doc, row in many_rows(26, 400):
            for at in range(len(row)):
                back, later = row[at].back(), row[at + 1:]
                try:
                    last = along(back, later)
                except Clash as refusal:
                    hanging += 1
                    self.assert_hangs(taken_out, (row, at), at + 1 + refusal.at, refusal.part)
                else:
                    taken += 1
                    met = grid([back], later)
                    self.assertEqual(met[0], "met")
                    self.assert_taken(doc, row, at, row_told(row[:at] + met[2]), last.back().told())
        self.assertGreater(min(taken, hanging), 300)

    def test_where_it_can_be_taken_out_it_can_be_left_undone(self):
        # What is left is what the later deeds would have been if the deed had never been: put behind them, it is it.
        for _, doc, row in many_rows(27, 200):
            for at in range(len(row)):
                try:
                    left, deed = taken_out(row, at)
                except Hangs:
                    continue
                later = grid(left[at:], [row[at]])
                self.assertEqual((row_told(later[1]), row_told(later[2])), (row_told(row[at + 1:]), [deed.told()]))

    def test_no_such_number(self):
        row = [Put(("x",), 1), Set(("x",), 1, 2)]
        for wrong in NO_NUMBERS + (2, 3):
            self.assert_no_deed(taken_out, row, wrong)
        for wrong in NO_NUMBERS + (0, 1):
            self.assert_no_deed(taken_out, [], wrong)


class PutIn(TakingCase):
    def test_each_place(self):
        row = [Move(("a",), ("x",)), Put(("x", "y"), 6), Move(("x", "b"), ("c", "b"))]
        told = row_told(row)
        deed = Set(("c", "b"), 2, 7)
        self.assert_put(DOC, row, 3, deed, told + [("set", ("c", "b"), 2, 7)])
        self.assert_put(DOC, row, 2, deed, told[:2] + [("set", ("x", "b"), 2, 7), told[2]])
        self.assert_put(DOC, row, 1, deed, told[:1] + [("set", ("x", "b"), 2, 7)] + told[1:])
        self.assert_put(DOC, row, 0, deed, [("set", ("a", "b"), 2, 7)] + told)

    def test_a_move_carries_those_that_it_is_put_ahead_of(self):
        row = [Set(("a",), 1, 6), Put(("a", "y"), 7), Move(("b",), ("a", "y", "b"))]
        told = [("set", ("x",), 1, 6), ("put", ("x", "y"), 7), ("move", ("b",), ("x", "y", "b"))]
        deed = Move(("a",), ("x",))
        for at in range(4):
            self.assert_put(DOC, row, at, deed, row_told(row[:at]) + [deed.told()] + told[at:])

    def test_a_row_without_deeds(self):
        for deed in (Put(("x",), 1), Cut(("c",), 5), Set((), 0, 1), Move(("a",), ("x",))):
            self.assert_put(DOC, [], 0, deed, [deed.told()])

    def test_last_where_it_hangs_on_all(self):
        row = [Put(("x",), 1), Set(("x",), 1, 2)]
        self.assert_put(DOC, row, 2, Cut(("x",), 2), row_told(row) + [("cut", ("x",), 2)])

    def test_what_hangs(self):
        self.assert_hangs(put_in, ([Put(("x",), 1)], 0, Set(("x",), 1, 2)), 0, ("x",))
        self.assert_hangs(put_in, ([Put(("x",), 1)], 0, Put(("x", "y"), 2)), 0, ("x",))
        self.assert_hangs(put_in, ([Cut(("c",), 5)], 0, Put(("c",), 5)), 0, ("c",))
        self.assert_hangs(put_in, ([Set((), 0, 1)], 0, Set((), 1, 2)), 0, ())
        self.assert_hangs(put_in, ([Move(("a",), ("x",))], 0, Put(("a",), 2)), 0, ("a",))
        self.assert_hangs(put_in, ([Move(("a",), ("x",))], 0, Move(("x",), ("y",))), 0, ("x",))
        self.assert_hangs(put_in, ([Cut(("a", "b"), 2)], 0, Cut(("a",), 1)), 0, ("a",))

    def test_the_number_of_the_one_it_hangs_on(self):
        row = [Put(("x",), 1), Set((), 0, 1), Put(("x", "y"), 2), Set((), 1, 2), Set(("a",), 1, 2)]
        told = row_told(row)
        deed = Set(("x", "y"), 2, 3)
        for at in (0, 1, 2):
            self.assert_hangs(put_in, (row, at, deed), 2, ("x", "y"))
        self.assert_put(DOC, row, 3, deed, told[:3] + [deed.told()] + told[3:])
        deed = Set(("x",), 1, 3)
        self.assert_hangs(put_in, (row, 0, deed), 0, ("x",))
        self.assert_put(DOC, row, 1, deed, told[:1] + [deed.told()] + told[1:])
        # The last one of several that it hangs on, as it comes from behind.
        deed = Set((), 2, 3)
        for at in range(4):
            self.assert_hangs(put_in, (row, at, deed), 3, ())

    def test_the_part_is_a_path_right_behind_the_one_it_hangs_on(self):
        row = [Put(("x",), 1), Move(("x",), ("y",)), Move(("y",), ("c", "z"))]
        self.assert_hangs(put_in, (row, 0, Set(("c", "z"), 1, 2)), 0, ("x",))
        self.assert_put(DOC, row, 1, Set(("c", "z"), 1, 2),
                        [("put", ("x",), 1), ("set", ("x",), 1, 2)] + row_told(row[1:]))
        row = [Put(("a", "x"), 1), Move(("a",), ("y",)), Set(("y", "x"), 1, 2), Move(("y",), ("z",))]
        self.assert_hangs(put_in, (row, 0, Cut(("z", "x"), 2)), 2, ("y", "x"))
        self.assert_hangs(put_in, (row[:2] + row[3:], 0, Cut(("z", "x"), 1)), 0, ("a", "x"))

    def test_by_the_words(self):
        put = hanging = 0
        for source, doc, row in many_rows(28, 800):
            deed = fitting_deed(source, row_done(doc, row))
            now, later = deed, []
            self.assert_put(doc, row, len(row), deed, row_told(row + [deed]))
            for at in reversed(range(len(row))):
                back = row[at].back()
                if clash(now, back) is not None:
                    hanging += 1
                    for place in range(at + 1):
                        self.assert_hangs(put_in, (row, place, deed), at, clash(now, back))
                    break
                now = moved(now, back)
                later = [moved(row[at], now)] + later
                put += 1
                self.assert_put(doc, row, at, deed, row_told(row[:at] + [now] + later))
        self.assertGreater(min(put, hanging), 200)

    def test_no_such_place(self):
        row = [Put(("x",), 1), Set((), 0, 1)]
        # The first one could be put in anywhere, the others nowhere but last.
        for deed in (Set(("a",), 1, 2), Set((), 1, 2), Set(("x",), 1, 2)):
            for wrong in NO_NUMBERS + (3, 4):
                self.assert_no_deed(put_in, row, wrong, deed)
        for wrong in NO_NUMBERS + (1, 2):
            self.assert_no_deed(put_in, [], wrong, Set((), 0, 1))


class Parted(TakingCase):
    def test_nothing_hangs(self):
        row = [Set((), 0, 1), Set(("a", "b"), 2, 6), Move(("a",), ("x",)), Put(("x", "y"), 7), Cut(("c",), 5)]
        told = row_told(row)
        self.assert_parted(DOC, row, 0, told[1:], told[:1], [])
        self.assert_parted(DOC, row, 1, told[:1] + told[2:], [("set", ("x", "b"), 2, 6)], [])
        self.assert_parted(DOC, row, 2, told[:2] + [("put", ("a", "y"), 7), told[4]], [("move", ("a",), ("x",))], [])
        self.assert_parted(DOC, row, 4, told[:4], told[4:], [])

    def test_all_later_ones_hang(self):
        row = [Set((), 0, 1), Put(("x",), 1), Put(("x", "y"), 2), Set(("x",), 1, 3), Put(("x", "y", "z"), 4),
               Set(("x", "y", "z"), 4, 5)]
        told = row_told(row)
        self.assert_parted(DOC, row, 1, told[:1], told[1:], [(2, 1), (3, 1), (4, 2), (5, 4)])
        self.assert_parted(DOC, [Set((), at, at + 1) for at in range(4)], 0, [],
                           [("set", (), at, at + 1) for at in range(4)], [(1, 0), (2, 1), (3, 2)])

    def test_some_hang(self):
        row = [Put(("x",), 1), Put(("y",), 1), Put(("x", "z"), 2), Set(("y",), 1, 2), Set(("x", "z"), 2, 3),
               Cut(("c",), 5)]
        told = row_told(row)
        self.assert_parted(DOC, row, 0, [told[1], told[3], told[5]], [told[0], told[2], told[4]], [(2, 0), (4, 2)])
        self.assert_parted(DOC, row, 1, [told[0], told[2], told[4], told[5]], [told[1], told[3]], [(3, 1)])
        self.assert_parted(DOC, row, 2, [told[0], told[1], told[3], told[5]], [told[2], told[4]], [(4, 2)])

    def test_what_goes_to_the_rest_carries_the_out(self):
        row = [Put(("a", "x"), 1), Move(("a",), ("y",)), Set(("y", "x"), 1, 2), Move(("y",), ("z",)),
               Put(("z", "x", "w"), 3)]
        self.assert_parted(DOC, row, 0, [("move", ("a",), ("y",)), ("move", ("y",), ("z",))],
                           [("put", ("z", "x"), 1), ("set", ("z", "x"), 1, 2), ("put", ("z", "x", "w"), 3)],
                           [(2, 0), (4, 0)])

    def test_what_hangs_goes_to_the_out_as_it_is_in_the_row(self):
        # Ahead of the Move the Set would be of ("x",), where it hangs on the Put.
        row = [Put(("x",), 1), Move(("x",), ("y",)), Set(("y",), 1, 2), Move(("a",), ("y", "a")), Set(("y", "a"), 1, 9)]
        told = row_told(row)
        self.assert_parted(DOC, row, 0, [("set", ("a",), 1, 9)], told[:4], [(1, 0), (2, 0), (3, 0)])

    def test_nothing_else_changes_where_one_hangs(self):
        # The Move gets ahead of the last Set, and would carry it, but hangs on the first one.
        row = [Put(("x",), 1), Put(("x", "y"), 2), Set(("x", "y"), 2, 3), Move(("x",), ("z",)), Set(("z", "y"), 3, 4)]
        told = row_told(row)
        self.assert_parted(DOC, row, 0, [], told, [(1, 0), (2, 1), (3, 0), (4, 2)])
        self.assert_parted(DOC, row, 1, [told[0], told[3]],
                           [("put", ("z", "y"), 2), ("set", ("z", "y"), 2, 3), ("set", ("z", "y"), 3, 4)],
                           [(2, 1), (4, 2)])

    def test_the_reason_is_the_first_one_that_it_clashes_with(self):
        # The last Cut hangs on all three of the out, and comes from behind; numbers of the row, not of the out.
        row = [Set((), 0, 1), Put(("x",), 1), Set(("a",), 1, 2), Set(("x",), 1, 2), Set(("a",), 2, 3),
               Set(("x",), 2, 3), Set(("a",), 3, 4), Cut(("x",), 3)]
        told = row_told(row)
        self.assert_parted(DOC, row, 1, [told[0], told[2], told[4], told[6]], [told[1], told[3], told[5], told[7]],
                           [(3, 1), (5, 3), (7, 5)])

    def test_a_row_of_one(self):
        self.assert_parted(DOC, [Set((), 0, 1)], 0, [], [("set", (), 0, 1)], [])

    def parted_by_the_words(self, row, at):
        rest, out, reasons = list(row[:at]), [(at, row[at])], []
        for number in range(at + 1, len(row)):
            now, became, on = row[number], [], None
            for place, deed in reversed(out):
                if clash(now, deed.back()) is not None:
                    on = place
                    break
                now = moved(now, deed.back())
                became = [(place, moved(deed, now))] + became
            if on is None:
                rest.append(now)
                out = became
            else:
                out.append((number, row[number]))
                reasons.append((number, on))
        return row_told(rest), row_told([deed for _, deed in out]), reasons

    def test_by_the_words(self):
        alone = some = 0
        for _, doc, row in many_rows(29, 400):
            for at in range(len(row)):
                rest, out, reasons = self.parted_by_the_words(row, at)
                self.assert_parted(doc, row, at, rest, out, reasons)
                self.assertEqual(rest[:at], row_told(row[:at]))
                self.assertTrue(row_fits(doc, [deed_of(told) for told in rest + out]))
                some += len(out) > 2 and len(rest) > at
                try:
                    left, deed = taken_out(row, at)
                except Hangs as refusal:
                    self.assertEqual(reasons[0], (refusal.at, at))
                else:
                    alone += 1
                    self.assertEqual((rest, out), (row_told(left), [deed.told()]))
        self.assertGreater(alone, 300)
        self.assertGreater(some, 50)

    def test_no_such_number(self):
        row = [Put(("x",), 1), Set(("x",), 1, 2)]
        for wrong in NO_NUMBERS + (2, 3):
            self.assert_no_deed(parted, row, wrong)
        for wrong in NO_NUMBERS + (0, 1):
            self.assert_no_deed(parted, [], wrong)


class OwnersAndBounds(TakingCase):
    def answers(self, row, deed):
        """All lists that come of the row: of some calls none is the row, though it may be told like it."""
        lists = []
        for at in range(len(row)):
            lists += [taken_out(row, at)[0]] + list(parted(row, at))
        return lists + [put_in(row, at, deed) for at in range(len(row) + 1)]

    def shown(self, lists):
        return [[deed if isinstance(deed, tuple) else deed.told() for deed in each] for each in lists]

    def test_changed_afterwards(self):
        for row in ([], [Set((), 0, 1)], [Move(("a",), ("x",)), Set(("x",), 1, 2), Cut(("c",), 5)]):
            kept, deed = list(row), Put(("z",), 1)
            lists = self.answers(row, deed)
            first = self.shown(lists)
            # Their owner changes the row.
            row.append(Put(("w",), 1))
            row[0] = Cut(("ab",), 3)
            self.assertEqual(self.shown(lists), first)
            # The asker changes the answers.
            row[:] = kept
            for each in lists:
                each.append("more")
                each[0] = "less"
            self.assertEqual(row, kept)
            self.assertEqual(self.shown(self.answers(row, deed)), first)

    def test_a_changed_rest_reaches_no_out(self):
        rest, out, reasons = parted([Put(("x",), 1), Put(("x", "y"), 2)], 0)
        rest.append("more")
        reasons.clear()
        self.assertEqual(row_told(out), [("put", ("x",), 1), ("put", ("x", "y"), 2)])

    def test_a_refusal_leaves_all_as_it_was(self):
        row = [Move(("a",), ("x",)), Put(("x", "y"), 1), Set(("x", "y"), 1, 2)]
        kept = row_told(row)
        for ask in (lambda: taken_out(row, 1), lambda: put_in(row, 0, Set(("x", "y"), 2, 3))):
            with self.assertRaises(Hangs):
                ask()
            self.assertEqual(row_told(row), kept)
        self.assert_taken(DOC, row, 0, [("put", ("a", "y"), 1), ("set", ("a", "y"), 1, 2)], kept[0])

    def test_sixty_deeds_and_forty_names(self):
        doc = great_doc()
        long = ("a",) * 40
        row = [Set(long, 40, 41)]
        for _ in range(19):
            row += [Move(("a",), ("z",)), Move(("z",), ("y",)), Move(("y",), ("a",))]
        row += [Move(("a",), ("z",)), Set((), 0, 1)]
        self.assertEqual(len(row), 60)
        told = row_told(row)
        last = ("set", ("z",) + long[1:], 40, 41)
        self.assert_taken(doc, row, 0, told[1:], last)
        self.assert_put(doc, row[1:], 0, deed_of(last), told)
        self.assert_parted(doc, row, 0, told[1:], [last], [])
        self.assert_parted(doc, row, 1, told[:1] + told[59:], told[1:59], [(at, at - 1) for at in range(2, 59)])
        self.assert_hangs(taken_out, (row[:59] + [Set(("z",) + long[1:], 41, 42)], 0), 59, ("z",) + long[1:])
        self.assert_no_deed(taken_out, row, 60)
        self.assert_no_deed(put_in, row, 61, Set((), 1, 2))
        many = [Set((), at, at + 1) for at in range(60)]
        self.assert_parted(doc, many, 0, [], row_told(many), [(at, at - 1) for at in range(1, 60)])


if __name__ == "__main__":
    unittest.main()
