"""Promise [8], and [2] as far as it speaks of rows."""

import itertools
import random
import unittest

from boughback.deeds import Cut, Move, Put, Set, deed_of
from boughback.errors import Unfit
from boughback.rows import row_back, row_done, row_fits, row_told, trimmed
from samples import fitting_row, great_doc, some_doc

GREAT = 10 ** 60 - 1
DOC = {(): 1, ("a",): 2, ("ab",): 3, ("a", "b"): 4}
NO_FIT = (Put(("a",), 2), Put(("x", "y"), 0), Put((), 1), Cut((), 1), Cut(("ab",), 4), Cut(("x",), 0),
          Set(("ab",), 4, 3), Set(("ab",), 3, 3), Move(("x",), ("y",)), Move(("a",), ("ab",)), Move((), ("x",)),
          Move(("ab",), ()), Move(("a",), ("a", "b", "c")))


class RowCase(unittest.TestCase):
    def assert_makes(self, doc, row, wanted):
        kept_doc, kept_row = list(doc.items()), list(row)
        self.assertIs(row_fits(doc, row), True)
        made = row_done(doc, row)
        self.assertIs(type(made), dict)
        self.assertEqual(made, wanted)
        self.assertIsNot(made, doc)
        self.assertEqual((list(doc.items()), row), (kept_doc, kept_row))

    def assert_unfit(self, doc, row, at):
        kept_doc, kept_row = list(doc.items()), list(row)
        self.assertIs(row_fits(doc, row), False, row_told(row))
        with self.assertRaises(Unfit) as caught:
            row_done(doc, row)
        self.assertEqual(caught.exception.at, at, row_told(row))
        self.assertIs(type(caught.exception.at), int)
        self.assertEqual((list(doc.items()), row), (kept_doc, kept_row))


class RowsDone(RowCase):
    def test_empty_row(self):
        self.assert_makes(DOC, [], dict(DOC))
        self.assert_makes({(): 0}, [], {(): 0})

    def test_one_deed(self):
        self.assert_makes(DOC, [Put(("c",), 5)], {**DOC, ("c",): 5})
        self.assert_makes(DOC, [Cut(("ab",), 3)], {(): 1, ("a",): 2, ("a", "b"): 4})
        self.assert_makes(DOC, [Set((), 1, 9)], {**DOC, (): 9})
        self.assert_makes(DOC, [Move(("a",), ("ab", "a"))],
                          {(): 1, ("ab",): 3, ("ab", "a"): 2, ("ab", "a", "b"): 4})

    def test_each_deed_fits_only_by_what_the_one_ahead_made(self):
        row = [Put(("c",), 5), Put(("c", "d"), 6), Set(("c", "d"), 6, 7), Move(("c", "d"), ("e",)), Cut(("e",), 7),
               Put(("e",), 8)]
        self.assert_makes(DOC, row, {**DOC, ("c",): 5, ("e",): 8})
        # Without the Set it is the Cut, with another number than is there then, that does not fit.
        for gone, at in enumerate((0, 1, 3, 3, 4)):
            self.assert_unfit(DOC, row[:gone] + row[gone + 1:], at)

    def test_the_order_counts(self):
        self.assert_makes({(): 0}, [Set((), 0, 1), Set((), 1, 2)], {(): 2})
        self.assert_unfit({(): 0}, [Set((), 1, 2), Set((), 0, 1)], 0)
        self.assert_makes(DOC, [Cut(("a", "b"), 4), Cut(("a",), 2)], {(): 1, ("ab",): 3})
        self.assert_unfit(DOC, [Cut(("a",), 2), Cut(("a", "b"), 4)], 0)

    def test_first_middle_and_last_do_not_fit(self):
        # None of these touches what makes the others unfit.
        good = [Put(("c",), 0), Set((), 1, 2), Put(("c", "d"), 0), Set((), 2, 3), Cut(("c", "d"), 0)]
        for bad in NO_FIT:
            for at in range(len(good) + 1):
                self.assert_unfit(DOC, good[:at] + [bad] + good[at:], at)

    def test_the_first_of_several_is_told(self):
        good = [Set((), 1, 2), Set((), 2, 3), Set((), 3, 4)]
        for first, second in itertools.combinations(range(4), 2):
            row = list(good)
            row.insert(first, Put(("a",), 2))
            row.insert(second + 1, Cut(("x",), 1))
            self.assert_unfit(DOC, row, first)

    def test_fits_ahead_but_not_behind(self):
        self.assert_unfit(DOC, [Put(("c",), 0), Put(("c",), 0)], 1)
        self.assert_unfit(DOC, [Cut(("ab",), 3), Set(("ab",), 3, 4)], 1)
        self.assert_unfit(DOC, [Move(("a",), ("c",)), Put(("a", "d"), 0)], 1)
        self.assert_unfit(DOC, [Put(("ab", "c"), 0), Set((), 1, 0), Cut(("ab",), 3)], 2)

    def test_by_itself_at_is_0(self):
        for bad in NO_FIT:
            self.assert_unfit(DOC, [bad], 0)

    def test_like_the_deeds_by_hand(self):
        source = random.Random(8)
        for _ in range(200):
            doc = some_doc(source, source.randrange(1, 9))
            row = fitting_row(source, doc, source.randrange(0, 9))
            wanted = dict(doc)
            for deed in row:
                wanted = deed.done(wanted)
            self.assert_makes(doc, row, wanted)


class Backs(RowCase):
    def test_empty_row(self):
        self.assertEqual(row_back([]), [])

    def test_each_kind_the_last_one_first(self):
        row = [Put(("c",), 5), Set(("a",), 2, 6), Move(("c",), ("d",)), Cut(("ab",), 3)]
        back = row_back(row)
        self.assertIs(type(back), list)
        self.assertEqual(row_told(back), [("put", ("ab",), 3), ("move", ("d",), ("c",)), ("set", ("a",), 6, 2),
                                          ("cut", ("c",), 5)])
        self.assertEqual([type(deed) for deed in back], [Put, Move, Set, Cut])
        self.assert_makes(row_done(DOC, row), back, DOC)

    def test_of_a_row_that_fits_nothing(self):
        row = [Put((), 1), Move(("a",), ("a",))]
        self.assertEqual(row_told(row_back(row)), [("move", ("a",), ("a",)), ("cut", (), 1)])

    def test_leads_back(self):
        source = random.Random(9)
        for _ in range(200):
            doc = some_doc(source, source.randrange(1, 9))
            row = fitting_row(source, doc, source.randrange(0, 9))
            back = row_back(row)
            self.assert_makes(row_done(doc, row), back, doc)
            self.assertEqual(row_told(row_back(back)), row_told(row))
            self.assertEqual(row_told(back), [deed.back().told() for deed in row][::-1])


def pairs(told):
    """The places at which a deed stands with its back straight behind it, over told rows."""
    return [at for at in range(len(told) - 1) if deed_of(told[at]).back().told() == told[at + 1]]


class Trimmed(RowCase):
    def assert_trimmed(self, row, wanted):
        kept = list(row)
        left = trimmed(row)
        self.assertIs(type(left), list)
        self.assertEqual(row_told(left), row_told(wanted))
        self.assertIsNot(left, row)
        self.assertEqual(row, kept)

    def test_empty_row(self):
        self.assert_trimmed([], [])

    def test_a_pair_of_each_kind(self):
        for deed in (Put(("a",), 1), Cut(("a",), 1), Set(("a",), 1, 2), Move(("a",), ("b",))):
            self.assert_trimmed([deed], [deed])
            self.assert_trimmed([deed, deed.back()], [])
            self.assert_trimmed([deed.back(), deed], [])

    def test_pairs_inside_pairs(self):
        one, two, three = Put(("a",), 1), Set((), 0, 1), Move(("a",), ("b",))
        row = [one, two, three]
        self.assert_trimmed(row + row_back(row), [])
        self.assert_trimmed([one, two, three, three.back(), two.back()], [one])
        self.assert_trimmed([two, three, three.back(), two.back(), one], [one])

    def test_pairs_that_only_come_to_stand_side_by_side(self):
        one, two, three, four = Put(("a",), 1), Set((), 0, 1), Cut(("c",), 5), Set((), 1, 4)
        self.assert_trimmed([one, two, two.back(), three, three.back(), one.back()], [])
        self.assert_trimmed([four, one, two, two.back(), one.back(), three], [four, three])

    def test_a_deed_its_back_and_the_deed_again(self):
        for deed in (Put(("a",), 1), Cut(("a",), 1), Set(("a",), 1, 2), Move(("a",), ("b",))):
            self.assert_trimmed([deed, deed.back(), deed], [deed])
            self.assert_trimmed([deed, deed.back(), deed, deed.back()], [])

    def test_without_such_pairs(self):
        for row in ([Put(("a",), 1), Put(("b",), 1), Cut(("a",), 1)], [Put(("a",), 1), Cut(("a",), 2)],
                    [Put(("a",), 1), Cut(("b",), 1)], [Put(("a",), 1), Put(("a",), 1)],
                    [Set((), 0, 1), Set((), 1, 2)], [Set((), 0, 1), Set((), 0, 1)], [Set((), 0, 1), Set(("a",), 1, 0)],
                    [Move(("a",), ("b",)), Move(("b",), ("c",))], [Move(("a",), ("b",)), Move(("c",), ("a",))],
                    [Set((), 0, 1), Put(("a",), 0), Set((), 1, 0), Cut(("a",), 0)]):
            self.assert_trimmed(row, row)

    def test_deeds_that_are_their_own_backs(self):
        for deed in (Set(("a",), 1, 1), Move(("a",), ("a",))):
            self.assert_trimmed([deed], [deed])
            self.assert_trimmed([deed] * 2, [])
            self.assert_trimmed([deed] * 3, [deed])

    def test_numbers_that_are_made_anew(self):
        for number in (GREAT, -GREAT):
            again = int(str(number))
            self.assert_trimmed([Put(("a",), number), Cut(("a",), again)], [])
            self.assert_trimmed([Set(("a",), number, 0), Set(("a",), 0, again)], [])

    def test_whichever_are_left_out_first(self):
        source = random.Random(10)
        some = [Put(("a",), 1), Cut(("a",), 1), Set((), 0, 1), Set((), 1, 0), Move(("a",), ("b",)),
                Move(("b",), ("a",)), Set((), 0, 0)]
        for _ in range(400):
            row = [source.choice(some) for _ in range(source.randrange(0, 13))]
            told = row_told(row)
            while pairs(told):
                at = source.choice(pairs(told))
                told = told[:at] + told[at + 2:]
            self.assertEqual(row_told(trimmed(row)), told)

    def test_what_is_left_fits_and_makes_the_same(self):
        source = random.Random(11)
        shorter = 0
        for _ in range(200):
            doc = some_doc(source, source.randrange(1, 7))
            row = []
            for _ in range(4):
                more = fitting_row(source, row_done(doc, row), source.randrange(0, 4))
                row = row + more + row_back(more)[:source.randrange(0, 4)]
            left = trimmed(row)
            self.assertEqual(pairs(row_told(left)), [])
            self.assert_makes(doc, left, row_done(doc, row))
            shorter += len(left) < len(row)
        self.assertGreater(shorter, 100)


class Told(unittest.TestCase):
    def test_row_told(self):
        self.assertEqual(row_told([]), [])
        told = row_told([Put(("a", "b"), 3), Cut(("a",), -3), Set((), 3, 4), Move(("a",), ("b",)), Cut(("a",), -3)])
        self.assertIs(type(told), list)
        self.assertEqual(told, [("put", ("a", "b"), 3), ("cut", ("a",), -3), ("set", (), 3, 4),
                                ("move", ("a",), ("b",)), ("cut", ("a",), -3)])


class OwnersAndBounds(RowCase):
    def test_a_changed_answer_changes_no_later_one(self):
        row = [Put(("c",), 5), Set((), 1, 2)]
        kept = list(row)
        for first in (row_back(row), trimmed(row), row_told(row)):
            first.append("more")
            first.pop(0)
            self.assertEqual(row, kept)
        self.assertEqual(row_told(row), [("put", ("c",), 5), ("set", (), 1, 2)])
        self.assertEqual(row_told(trimmed(row)), [("put", ("c",), 5), ("set", (), 1, 2)])
        self.assertEqual(row_told(row_back(row)), [("set", (), 2, 1), ("cut", ("c",), 5)])
        for asked in ([], row):
            doc = dict(DOC)
            first = row_done(doc, asked)
            kept = dict(first)
            first.clear()
            self.assertEqual(doc, DOC)
            self.assertEqual(row_done(doc, asked), kept)

    def test_what_is_changed_later_changes_no_answer(self):
        for asked in ([], [Put(("c",), 5), Set((), 1, 2)]):
            doc, row = dict(DOC), list(asked)
            made, back, left, told = row_done(doc, row), row_back(row), trimmed(row), row_told(row)
            kept = dict(made), list(back), list(left), list(told)
            doc.clear()
            row.append(Put(("d",), 6))
            row[0] = Put(("e",), 7)
            self.assertEqual((made, back, left, told), kept)

    def test_a_row_is_taken_as_it_is_just_then(self):
        row = [Put(("c",), 5)]
        self.assert_makes(DOC, row, {**DOC, ("c",): 5})
        row.append(Put(("c",), 5))
        self.assert_unfit(DOC, row, 1)

    def test_four_hundred_deeds_three_hundred_parts_and_forty_names(self):
        doc = great_doc()
        self.assertEqual((len(doc), max(map(len, doc))), (300, 40))
        row = []
        for turn in range(100):
            row += [Move(("a",), ("z",)), Set(("z",) + ("a",) * 39, 40 + turn, 41 + turn), Move(("z",), ("a",)),
                    Set((), turn, turn + 1)]
        wanted = {**doc, (): 100, ("a",) * 40: 140}
        self.assert_makes(doc, row, wanted)
        self.assert_makes(wanted, row_back(row), doc)
        self.assertEqual(row_told(trimmed(row)), row_told(row))
        self.assertEqual(trimmed(row + row_back(row)), [])
        self.assert_unfit(doc, row + [Cut(("a",) * 39, 39)], 400)


if __name__ == "__main__":
    unittest.main()
