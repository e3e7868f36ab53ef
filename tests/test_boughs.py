"""Promises [10] and [12], the line of a stand of [11], and [2] as far as it speaks of boughs."""

import random
import unittest

from boughback.boughs import Bough
from boughback.deeds import Cut, Move, Put, Set
from boughback.errors import Empty, NoStand, NoWord, Twice, Unfit
from boughback.rows import row_done, row_told
from samples import fitting_row, great_doc, some_doc

GREAT = 10 ** 60 - 1
DOC = {(): 1, ("a",): 2, ("a", "b"): 3}
NO_NAMES = ("", "A", "aB", "a1", "abcdefghi", "a b", " ", "a\n", "\n", "@a", "/a", "a/b", "0", "1", "-1")


def told_of(bough):
    """All that a bough tells of itself."""
    stands = [(bough.doc(stand), bough.parent(stand), row_told(bough.row(stand)), bough.line(stand))
              for stand in range(bough.many())]
    return bough.many(), stands, [(word, bough.called(word)) for word in bough.words()]


def small_bough():
    """0 has 1 and 4, 1 has 2 and 3, 3 has 5."""
    bough = Bough(DOC)
    for stand, row in ((0, [Put(("c",), 4)]), (1, [Set((), 1, 5), Cut(("c",), 4)]), (1, [Move(("c",), ("a", "c"))]),
                       (0, [Put(("c",), 4)]), (3, [Cut(("a", "b"), 3)])):
        bough.grow(stand, row)
    return bough


def no_stands(bough):
    return (-1, -2, -bough.many(), -bough.many() - 1, bough.many(), bough.many() + 1, GREAT, -GREAT)


class BoughCase(unittest.TestCase):
    def assert_refused(self, bough, error, call):
        kept = told_of(bough)
        with self.assertRaises(error) as caught:
            call()
        self.assertEqual(told_of(bough), kept)
        return caught.exception


class Stands(BoughCase):
    def test_root_stand(self):
        bough = Bough(DOC)
        self.assertEqual(bough.many(), 1)
        self.assertEqual(bough.doc(0), DOC)
        self.assertIsNone(bough.parent(0))
        self.assertEqual(bough.row(0), [])
        self.assertIs(type(bough.row(0)), list)
        self.assertEqual(bough.words(), [])

    def test_numbers_of_stands(self):
        bough = Bough({(): 0})
        for number in range(1, 6):
            self.assertEqual(bough.grow(number - 1, [Set((), number - 1, number)]), number)
            self.assertEqual(bough.many(), number + 1)
        for number in range(6, 10):
            self.assertEqual(bough.grow(0, [Set((), 0, number)]), number)
            self.assertEqual(bough.many(), number + 1)

    def test_what_each_stand_tells(self):
        bough = small_bough()
        self.assertEqual(bough.many(), 6)
        self.assertEqual([bough.parent(stand) for stand in range(6)], [None, 0, 1, 1, 0, 3])
        self.assertEqual([row_told(bough.row(stand)) for stand in range(6)],
                         [[], [("put", ("c",), 4)], [("set", (), 1, 5), ("cut", ("c",), 4)],
                          [("move", ("c",), ("a", "c"))], [("put", ("c",), 4)], [("cut", ("a", "b"), 3)]])
        self.assertEqual([bough.doc(stand) for stand in range(6)],
                         [DOC, {**DOC, ("c",): 4}, {(): 5, ("a",): 2, ("a", "b"): 3},
                          {**DOC, ("a", "c"): 4}, {**DOC, ("c",): 4}, {(): 1, ("a",): 2, ("a", "c"): 4}])

    def test_the_same_row_twice_on_one_stand(self):
        bough = Bough(DOC)
        row = [Put(("c",), 4)]
        self.assertEqual((bough.grow(0, row), bough.grow(0, row)), (1, 2))
        self.assertEqual((bough.doc(1), bough.parent(1)), (bough.doc(2), bough.parent(2)))
        # What is grown on the one of them is not on the other.
        self.assertEqual(bough.grow(2, [Cut(("c",), 4)]), 3)
        self.assertEqual((bough.doc(1), bough.doc(3)), ({**DOC, ("c",): 4}, DOC))
        self.assertEqual(bough.grow(1, [Cut(("c",), 4)]), 4)

    def test_several_stands_on_one(self):
        bough = Bough({(): 0})
        for number in range(1, 9):
            self.assertEqual(bough.grow(0, [Set((), 0, number)]), number)
        self.assertEqual([bough.parent(stand) for stand in range(9)], [None] + [0] * 8)
        self.assertEqual([bough.doc(stand) for stand in range(9)], [{(): number} for number in range(9)])

    def test_no_stand_goes_or_changes(self):
        source = random.Random(13)
        doc = some_doc(source, 5)
        bough = Bough(doc)
        stands = [(doc, None, [])]
        for number in range(1, 40):
            parent = source.randrange(number)
            row = fitting_row(source, stands[parent][0], source.randrange(1, 5))
            self.assertEqual(bough.grow(parent, row), number)
            stands.append((row_done(stands[parent][0], row), parent, row_told(row)))
            for stand, wanted in enumerate(stands):
                self.assertEqual((bough.doc(stand), bough.parent(stand), row_told(bough.row(stand))), wanted)

    def test_two_boughs_have_nothing_in_common(self):
        one, other = Bough(DOC), Bough(DOC)
        one.grow(0, [Put(("c",), 4)])
        one.call("top", 1)
        self.assertEqual((other.many(), other.words()), (1, []))
        other.call("top", 0)
        self.assertEqual((one.called("top"), other.called("top")), (1, 0))


class Refusals(BoughCase):
    def test_no_stand_wherever_one_is_told(self):
        for bough in (Bough(DOC), small_bough()):
            for stand in no_stands(bough):
                for ask in (bough.doc, bough.parent, bough.row, bough.line):
                    self.assert_refused(bough, NoStand, lambda: ask(stand))
                self.assert_refused(bough, NoStand, lambda: bough.grow(stand, [Set((), 1, 2)]))
                self.assert_refused(bough, NoStand, lambda: bough.call("top", stand))

    def test_true_and_false_are_no_stands(self):
        bough = small_bough()
        for stand in (True, False):
            for ask in (bough.doc, bough.parent, bough.row, bough.line):
                self.assert_refused(bough, NoStand, lambda: ask(stand))
            self.assert_refused(bough, NoStand, lambda: bough.grow(stand, [Set((), 1, 2)]))
            self.assert_refused(bough, NoStand, lambda: bough.call("top", stand))

    def test_empty(self):
        bough = small_bough()
        for stand in range(6):
            self.assert_refused(bough, Empty, lambda: bough.grow(stand, []))

    def test_unfit(self):
        bough = Bough(DOC)
        good = [Put(("c",), 4), Set((), 1, 2), Cut(("c",), 4), Set((), 2, 1)]
        for bad in (Put(("a",), 2), Cut(("a",), 2), Set(("a",), 3, 2), Move(("a",), ("a", "b", "c")), Put((), 1)):
            for at in range(len(good) + 1):
                error = self.assert_refused(bough, Unfit, lambda: bough.grow(0, good[:at] + [bad] + good[at:]))
                self.assertEqual(error.at, at)

    def test_unfit_there_but_not_elsewhere(self):
        bough = small_bough()
        error = self.assert_refused(bough, Unfit, lambda: bough.grow(5, [Set((), 1, 6), Put(("a", "c"), 0)]))
        self.assertEqual(error.at, 1)
        self.assertEqual(bough.grow(4, [Set((), 1, 6), Put(("a", "c"), 0)]), 6)

    def test_no_stand_comes_first(self):
        bough = small_bough()
        for stand in no_stands(bough):
            for row in ([], [Put((), 1)], [Set((), 1, 2), Cut((), 2)]):
                self.assert_refused(bough, NoStand, lambda: bough.grow(stand, row))

    def test_a_refusal_uses_up_no_number(self):
        bough = Bough({(): 0})
        for number in range(1, 5):
            self.assert_refused(bough, NoStand, lambda: bough.grow(number, [Set((), 0, number)]))
            self.assert_refused(bough, Empty, lambda: bough.grow(0, []))
            self.assert_refused(bough, Unfit, lambda: bough.grow(0, [Set((), 0, number), Set((), 0, 1)]))
            self.assertEqual(bough.grow(number - 1, [Set((), number - 1, number)]), number)
        # A trace that a refusal left would show in what is told of the stands that came behind it.
        self.assertEqual([bough.parent(stand) for stand in range(5)], [None, 0, 1, 2, 3])
        self.assertEqual([bough.doc(stand) for stand in range(5)], [{(): number} for number in range(5)])
        self.assertEqual([row_told(bough.row(stand)) for stand in range(1, 5)],
                         [[("set", (), number - 1, number)] for number in range(1, 5)])
        self.assertEqual(bough.line(4), [0, 1, 2, 3, 4])

    def test_a_refused_row_and_document_stay_as_they_are(self):
        doc = dict(DOC)
        bough = Bough(doc)
        row = [Put(("c",), 4), Put(("c",), 4)]
        kept = list(row)
        self.assert_refused(bough, Unfit, lambda: bough.grow(0, row))
        self.assertEqual((row, list(doc.items())), (kept, list(DOC.items())))


class Lines(BoughCase):
    def test_of_the_root_stand(self):
        self.assertEqual(Bough(DOC).line(0), [0])
        self.assertEqual(small_bough().line(0), [0])

    def test_of_each_stand(self):
        bough = small_bough()
        self.assertEqual([bough.line(stand) for stand in range(6)],
                         [[0], [0, 1], [0, 1, 2], [0, 1, 3], [0, 4], [0, 1, 3, 5]])
        self.assertIs(type(bough.line(5)), list)

    def test_of_a_deep_stand(self):
        bough = Bough({(): 0})
        for number in range(1, 130):
            bough.grow(number - 1, [Set((), number - 1, number)])
        self.assertEqual(bough.line(129), list(range(130)))
        self.assertEqual(bough.line(64), list(range(65)))

    def test_each_is_the_parent_of_the_next_one(self):
        source = random.Random(14)
        bough = Bough({(): 0})
        for number in range(1, 120):
            bough.grow(source.randrange(number), [Put(("n",), 0), Cut(("n",), 0)])
        for stand in range(120):
            line = bough.line(stand)
            self.assertEqual((line[0], line[-1]), (0, stand))
            self.assertEqual([bough.parent(each) for each in line], [None] + line[:-1])


class Words(BoughCase):
    def test_given_and_asked(self):
        bough = small_bough()
        bough.call("top", 5)
        bough.call("a", 0)
        bough.call("abcdefgh", 3)
        self.assertEqual([bough.called(word) for word in ("top", "a", "abcdefgh")], [5, 0, 3])
        self.assertEqual(bough.words(), ["a", "abcdefgh", "top"])
        self.assertIs(type(bough.words()), list)

    def test_sorted(self):
        bough = small_bough()
        given = ["b", "ab", "zz", "a", "abc", "ba", "z", "aa"]
        for stand, word in enumerate(given):
            bough.call(word, stand % 6)
            self.assertEqual(bough.words(), sorted(given[:stand + 1]))

    def test_several_of_one_stand(self):
        bough = small_bough()
        for word in ("one", "two", "three"):
            bough.call(word, 2)
        bough.drop("two")
        self.assertEqual([bough.called(word) for word in bough.words()], [2, 2])
        self.assertEqual(bough.words(), ["one", "three"])

    def test_a_dropped_word_is_given_again(self):
        bough = small_bough()
        for stand in (2, 2, 0, 5):
            bough.call("top", stand)
            self.assertEqual((bough.called("top"), bough.words()), (stand, ["top"]))
            bough.drop("top")
            self.assertEqual(bough.words(), [])
            self.assert_refused(bough, NoWord, lambda: bough.called("top"))

    def test_a_word_stays_where_it_was_given(self):
        bough = small_bough()
        bough.call("top", 5)
        self.assertEqual(bough.grow(5, [Set((), 1, 2)]), 6)
        self.assertEqual((bough.called("top"), bough.words()), (5, ["top"]))

    def test_no_word(self):
        bough = small_bough()
        bough.call("top", 1)
        for text in NO_NAMES:
            self.assert_refused(bough, NoWord, lambda: bough.call(text, 1))
            self.assert_refused(bough, NoWord, lambda: bough.called(text))
            self.assert_refused(bough, NoWord, lambda: bough.drop(text))

    def test_not_given(self):
        bough = small_bough()
        bough.call("top", 1)
        for word in ("to", "tops", "op", "a"):
            self.assert_refused(bough, NoWord, lambda: bough.called(word))
            self.assert_refused(bough, NoWord, lambda: bough.drop(word))
        bough.drop("top")
        self.assert_refused(bough, NoWord, lambda: bough.drop("top"))

    def test_twice(self):
        bough = small_bough()
        bough.call("top", 1)
        for stand in range(6):
            self.assert_refused(bough, Twice, lambda: bough.call("top", stand))
        self.assertEqual(bough.called("top"), 1)

    def test_no_stand(self):
        bough = small_bough()
        for stand in no_stands(bough):
            self.assert_refused(bough, NoStand, lambda: bough.call("top", stand))
        bough.call("top", 1)
        self.assertEqual(bough.called("top"), 1)

    def test_which_comes_first(self):
        bough = small_bough()
        bough.call("top", 1)
        for stand in no_stands(bough):
            self.assert_refused(bough, Twice, lambda: bough.call("top", stand))
            for text in NO_NAMES:
                self.assert_refused(bough, NoWord, lambda: bough.call(text, stand))


class Owners(BoughCase):
    def test_a_changed_answer_changes_no_later_one(self):
        bough = small_bough()
        bough.call("top", 3)
        kept = told_of(bough)
        for stand in range(6):
            doc = bough.doc(stand)
            doc[()] = 77
            doc.pop(("a",))
            bough.row(stand).append(Put(("x",), 1))
            bough.row(stand).clear()
            bough.line(stand).append(9)
            bough.line(stand).reverse()
            bough.words().append("more")
            bough.words().clear()
            self.assertEqual(told_of(bough), kept)
        self.assertEqual(bough.grow(0, [Set((), 1, 2)]), 6)
        self.assertEqual(bough.doc(6), {**DOC, (): 2})

    def test_the_document_of_the_beginning_is_changed_later(self):
        doc = dict(DOC)
        bough = Bough(doc)
        doc[()] = 77
        doc.pop(("a", "b"))
        self.assertEqual(bough.doc(0), DOC)
        self.assertEqual(bough.grow(0, [Cut(("a", "b"), 3)]), 1)
        self.assertEqual((bough.doc(0), bough.doc(1)), (DOC, {(): 1, ("a",): 2}))
        doc.clear()
        self.assertEqual((bough.doc(0), bough.doc(1)), (DOC, {(): 1, ("a",): 2}))

    def test_the_row_of_a_stand_is_changed_later(self):
        bough = Bough(DOC)
        row = [Put(("c",), 4), Set((), 1, 2)]
        told = row_told(row)
        bough.grow(0, row)
        row[0] = Cut(("a", "b"), 3)
        row.append(Put(("x",), 1))
        self.assertEqual(row_told(bough.row(1)), told)
        row.clear()
        self.assertEqual(row_told(bough.row(1)), told)
        self.assertEqual(bough.doc(1), {**DOC, ("c",): 4, (): 2})

    def test_nothing_handed_in_is_changed(self):
        doc, row = dict(DOC), [Put(("c",), 4), Move(("a",), ("c", "a"))]
        kept = list(row)
        bough = Bough(doc)
        bough.grow(0, row)
        bough.grow(1, [Set((), 1, 2)])
        self.assertEqual((list(doc.items()), row), (list(DOC.items()), kept))

    def test_no_later_deed_reaches_into_an_answer(self):
        bough = Bough(DOC)
        doc, row, line, words = bough.doc(0), bough.row(0), bough.line(0), bough.words()
        bough.grow(0, [Set((), 1, 2), Cut(("a", "b"), 3)])
        bough.call("top", 1)
        self.assertEqual((doc, row, line, words), (DOC, [], [0], []))
        grown, words = bough.line(1), bough.words()
        bough.grow(1, [Set((), 2, 1)])
        bough.drop("top")
        self.assertEqual((grown, words), ([0, 1], ["top"]))


class Bounds(BoughCase):
    def test_stands_parts_deeds_and_names(self):
        doc = great_doc()
        bough = Bough(doc)
        row = [deed for turn in range(15) for deed in (Move(("a",), ("z",)), Set((), turn, turn + 1),
                                                       Move(("z",), ("a",)), Set(("ba",), turn + 1, turn + 2))]
        back = [deed.back() for deed in reversed(row)]
        self.assertEqual(len(row), 60)
        for number in range(1, 120):
            self.assertEqual(bough.grow(number - 1, row if number % 2 else back), number)
        changed = {**doc, (): 15, ("ba",): 16}
        self.assertEqual((bough.many(), bough.doc(118), bough.doc(119)), (120, doc, changed))
        self.assertEqual(max(map(len, bough.doc(119))), 40)

    def test_numbers_of_sixty_figures(self):
        bough = Bough({(): GREAT})
        self.assertEqual(bough.grow(0, [Set((), int(str(GREAT)), -GREAT), Put(("a",), GREAT)]), 1)
        self.assertEqual(bough.doc(1), {(): -GREAT, ("a",): GREAT})


if __name__ == "__main__":
    unittest.main()
