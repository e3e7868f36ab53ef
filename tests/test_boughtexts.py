"""Promise [29], and [2] as far as it speaks of boughs that are written and read."""

import random
import re
import unittest

from boughback.boughs import Bough
from boughback.boughtexts import read_bough, show_bough
from boughback.deeds import Cut, Move, Put, Set, deed_of
from boughback.errors import BoughError, NoText
from boughback.rows import row_done, row_fits
from samples import NUMBER, ROW, altered, doc_by_the_words, great_doc, row_by_the_words, some_bough, told_bough

GREAT = 10 ** 60 - 1
# 0 has 1 and 3, 1 has 2; two words are given to one stand.
ROWS = ("/ 0, /a 1", "0 put /b 2", "1 set /a 1 3; cut /b 2", "0 move /a /c", "@old 0", "@top 2", "@tops 2")
TEXT = "\n".join(ROWS)


def grown():
    """The bough that the text writes."""
    bough = Bough({(): 0, ("a",): 1})
    bough.grow(0, [Put(("b",), 2)])
    bough.grow(1, [Set(("a",), 1, 3), Cut(("b",), 2)])
    bough.grow(0, [Move(("a",), ("c",))])
    for word, stand in (("tops", 2), ("old", 0), ("top", 2)):
        bough.call(word, stand)
    return bough


def with_words(source, bough):
    """The bough, with up to six words given to some of its stands."""
    for word in source.sample(("a", "ab", "b", "top", "tops", "zzzzzzzz", "abcdefgh", "old"), source.randrange(7)):
        bough.call(word, source.randrange(bough.many()))
    return bough


def grown_doc(docs, parent, text):
    """The document that the row makes of its parent's, None where it does not fit, has no deeds or is none."""
    told = row_by_the_words(text)
    row = [deed_of(each) for each in told or []]
    if not row or not 0 <= parent < len(docs) or not row_fits(docs[parent], row):
        return None
    return row_done(docs[parent], row)


def first_bad_row(text):
    """By the words: the number of the first row that may not stand where it stands; None where there is none."""
    docs, words = [], []
    for at, row in enumerate(text.split("\n")):
        stand = re.fullmatch(rf"({NUMBER}) ({ROW})", row)
        word = re.fullmatch(rf"@([a-z]{{1,8}}) ({NUMBER})", row)
        if at == 0 and doc_by_the_words(row) is not None:
            docs.append(doc_by_the_words(row))
        elif at > 0 and stand and not words and grown_doc(docs, int(stand[1]), stand[2]) is not None:
            docs.append(grown_doc(docs, int(stand[1]), stand[2]))
        elif at > 0 and word and 0 <= int(word[2]) < len(docs) and (not words or words[-1] < word[1]):
            words.append(word[1])
        else:
            return at
    return None


class TextCase(unittest.TestCase):
    def assert_refused(self, text, at):
        with self.assertRaises(BoughError, msg=repr(text)) as caught:
            read_bough(text)
        self.assertIs(type(caught.exception), NoText, repr(text))
        self.assertEqual(caught.exception.at, at, repr(text))
        self.assertIs(type(caught.exception.at), int)
        self.assertEqual(first_bad_row(text), at, repr(text))

    def assert_by_the_words(self, text):
        """The text is refused at its first bad row, or read as a bough that is written by it."""
        at = first_bad_row(text)
        if at is not None:
            self.assert_refused(text, at)
        else:
            rows = text.split("\n")
            self.assertEqual(show_bough(read_bough(text)).split("\n")[1:], rows[1:])
            self.assertEqual(read_bough(text).doc(0), doc_by_the_words(rows[0]))

    def assert_refused_in_the_place_of(self, at, row):
        """Refused there, whether all that follows is there or nothing."""
        self.assert_refused("\n".join(ROWS[:at] + (row,)), at)
        self.assert_refused("\n".join(ROWS[:at] + (row,) + ROWS[at + 1:]), at)
        self.assert_refused("\n".join(ROWS[:at] + (row,) + ROWS[at:]), at)

    def assert_writes(self, bough, text):
        kept = told_bough(bough)
        self.assertEqual(show_bough(bough), text)
        self.assertIs(type(show_bough(bough)), str)
        self.assertEqual(told_bough(bough), kept)
        again = read_bough(text)
        self.assertIs(type(again), Bough)
        self.assertEqual(told_bough(again), kept)
        self.assertEqual([again.line(stand) for stand in range(again.many())],
                         [bough.line(stand) for stand in range(bough.many())])


class WrittenAndRead(TextCase):
    def test_one_stand(self):
        self.assert_writes(Bough({(): 0}), "/ 0")
        self.assert_writes(Bough({(): -3, ("b",): 2, ("a",): 1}), "/ -3, /a 1, /b 2")

    def test_one_stand_with_words(self):
        bough = Bough({(): 0})
        bough.call("b", 0)
        bough.call("a", 0)
        self.assert_writes(bough, "/ 0\n@a 0\n@b 0")

    def test_many_stands(self):
        self.assert_writes(grown(), TEXT)

    def test_without_words(self):
        bough = grown()
        for word in bough.words():
            bough.drop(word)
        self.assert_writes(bough, "\n".join(ROWS[:4]))

    def test_words_are_sorted(self):
        bough = Bough({(): 0})
        bough.grow(0, [Set((), 0, 1)])
        for word, stand in (("b", 1), ("ab", 0), ("zzzzzzzz", 1), ("abc", 1), ("a", 1), ("ba", 0)):
            bough.call(word, stand)
        self.assert_writes(bough, "/ 0\n0 set / 0 1\n@a 1\n@ab 0\n@abc 1\n@b 1\n@ba 0\n@zzzzzzzz 1")

    def test_a_word_dropped_and_given_again(self):
        bough = grown()
        bough.drop("top")
        self.assert_writes(bough, "\n".join(ROWS[:5] + ROWS[6:]))
        bough.call("top", 3)
        self.assert_writes(bough, "\n".join(ROWS[:5] + ("@top 3",) + ROWS[6:]))

    def test_stands_of_several_figures(self):
        bough = Bough({(): 0})
        rows = ["/ 0"]
        for stand in range(12):
            bough.grow(stand, [Set((), stand, stand + 1)])
            rows.append(f"{stand} set / {stand} {stand + 1}")
        bough.call("top", 12)
        self.assert_writes(bough, "\n".join(rows + ["@top 12"]))

    def test_the_same_row_twice_on_one_stand(self):
        bough = Bough({(): 0})
        bough.grow(0, [Put(("a",), 1)])
        bough.grow(0, [Put(("a",), 1)])
        self.assert_writes(bough, "/ 0\n0 put /a 1\n0 put /a 1")

    def test_all_kinds_of_deeds_in_one_row(self):
        bough = Bough({(): 0})
        bough.grow(0, [Put(("a",), -1), Move(("a",), ("b",)), Set(("b",), -1, GREAT), Cut(("b",), GREAT)])
        self.assert_writes(bough, "/ 0\n0 put /a -1; move /a /b; set /b -1 " + "9" * 60 + "; cut /b " + "9" * 60)

    def test_parts_in_another_order(self):
        text = "/b 2, /a/c 3, / 0, /a 1\n0 cut /a/c 3\n@top 1"
        bough = read_bough(text)
        self.assertEqual(bough.doc(0), {(): 0, ("a",): 1, ("a", "c"): 3, ("b",): 2})
        self.assertEqual(show_bough(bough), "/ 0, /a 1, /a/c 3, /b 2\n0 cut /a/c 3\n@top 1")
        self.assertEqual(told_bough(read_bough(show_bough(bough))), told_bough(bough))

    def test_some_boughs(self):
        source = random.Random(55)
        for _ in range(40):
            bough = with_words(source, some_bough(source, source.randrange(1, 25)))
            text = show_bough(bough)
            self.assertIsNone(first_bad_row(text))
            self.assert_writes(bough, text)

    def test_read_without_its_last_rows(self):
        for many in range(1, len(ROWS) + 1):
            text = "\n".join(ROWS[:many])
            bough = read_bough(text)
            self.assertEqual((bough.many(), len(bough.words())), (min(many, 4), max(0, many - 4)))
            self.assert_writes(bough, text)


class Refused(TextCase):
    def test_the_row_of_the_document(self):
        for row in ("", " ", "/", "0", "/a 1", "/ 0, /a/b 1", "/ 0, /a 1, /a 1", "/ 0,/a 1", "/ 0 ", " / 0", "/ 00",
                    "0 put /b 2", "@old 0", "/ 0, /abcdefghi 1", "/ 1" + "0" * 60, "/ 0\r", "put /a 1"):
            self.assert_refused_in_the_place_of(0, row)
        self.assert_refused("", 0)
        self.assert_refused("\n", 0)
        self.assert_refused("\n" + TEXT, 0)

    def test_a_parent_that_is_not_a_stand_above(self):
        for parent in ("3", "4", "5", "100", "9" * 60, "9" * 61, "-1", "-2", "-0", "00", "01", "+0", "top", "@top", "",
                       "/", "/a", "0.", "\u0660"):
            self.assert_refused_in_the_place_of(3, parent + " set / 0 1")
        self.assert_refused_in_the_place_of(1, "1 set / 0 1")
        self.assert_refused_in_the_place_of(2, "2 set / 0 1")
        self.assert_refused("/ 0\n1 set / 0 1\n0 set / 0 1", 1)

    def test_a_row_that_does_not_fit(self):
        for row in ("put /a 1", "put /x/y 1", "cut /a 2", "cut /x 1", "cut / 0", "set / 1 2", "set / 0 0",
                    "move /a /a/b", "move /x /y", "move / /x", "put / 0", "put /x 1; put /x 1",
                    "put /x 1; cut /x 1; cut /x 1"):
            self.assert_refused_in_the_place_of(3, "0 " + row)
        # It fits another stand, but not its parent.
        self.assert_refused_in_the_place_of(3, "0 cut /b 2")
        self.assert_refused_in_the_place_of(3, "2 set /a 1 3")
        self.assert_refused_in_the_place_of(2, "0 set /a 1 3; cut /b 2")

    def test_a_row_without_deeds(self):
        for row in ("0", "0 ", "1 ", "2", "2 "):
            self.assert_refused_in_the_place_of(3, row)

    def test_a_row_that_is_none(self):
        for row in ("put /x 1", " put /x 1", "0  put /x 1", " 0 put /x 1", "0 put /x 1 ", "0 put /x 1;", "0 put /x 1; ",
                    "0 put /x 01", "0 Put /x 1", "0 put /x", "0 put /x 1;put /y 1", "0 put /x 1, put /y 1",
                    "0\tput /x 1", "0put /x 1", "0, put /x 1", "0: put /x 1", "0 1 put /x 1", "0 0", "0 /x 1", "/x 1",
                    "0 put /x 1\r", "0 put /abcdefghi 1", "0 put /x 1" + "0" * 60, "0 move /a " + "/a" * 41,
                    "text", "0 @top 0"):
            self.assert_refused_in_the_place_of(3, row)

    def test_a_word_that_is_none(self):
        for word in ("", " ", "A", "Top", "tOp", "top1", "1", "0", "abcdefghi", "sabcdefgh", "s_p", "s-p", "@s", "/s",
                     "s,", "\u00e4", "-", "so so"):
            self.assert_refused_in_the_place_of(5, "@" + word + " 2")

    def test_words_that_are_not_sorted(self):
        for word in ("a", "o", "ol", "olc", "b", "ok"):
            self.assert_refused_in_the_place_of(5, "@" + word + " 2")
        self.assert_refused("\n".join(ROWS[:5] + (ROWS[6], ROWS[5])), 6)
        self.assert_refused("\n".join(ROWS[:4] + (ROWS[5], ROWS[4], ROWS[6])), 5)
        self.assert_refused("\n".join(ROWS[:4] + (ROWS[6], ROWS[5], ROWS[4])), 5)

    def test_a_word_given_twice(self):
        self.assert_refused_in_the_place_of(5, "@old 0")
        self.assert_refused_in_the_place_of(5, "@old 2")
        self.assert_refused_in_the_place_of(6, "@top 2")
        self.assert_refused("\n".join(ROWS + ("@old 0",)), 7)
        self.assert_refused("\n".join(ROWS + ("@tops 2",)), 7)

    def test_a_word_with_a_stand_that_is_not_there(self):
        for stand in ("4", "5", "100", "9" * 60, "9" * 61, "-1", "-4", "-0", "00", "02", "+2", "top", "old", "@old", "",
                      " ", " 2", "2 ", "2 2", "2 put /x 1", "\u0662", "2\r", "2,"):
            self.assert_refused_in_the_place_of(5, "@ops " + stand)
            self.assert_refused_in_the_place_of(5, "@s " + stand)
        self.assert_refused_in_the_place_of(5, "@s")
        self.assert_refused_in_the_place_of(5, "@s\t2")
        self.assert_refused_in_the_place_of(5, "s 2")
        self.assert_refused_in_the_place_of(5, " @s 2")
        self.assert_refused_in_the_place_of(5, "@")
        self.assert_refused("/ 0\n@a 1", 1)
        # The stand would come behind the word, which is too late for both.
        self.assert_refused("/ 0\n@a 1\n0 set / 0 1", 1)

    def test_a_row_of_a_stand_behind_one_of_a_word(self):
        for row in ("0 set / 0 1", "3 set / 0 1", "2 put /x 1"):
            for at in (5, 6, 7):
                self.assert_refused("\n".join(ROWS[:at] + (row,)), at)
                self.assert_refused("\n".join(ROWS[:at] + (row,) + ROWS[at:]), at)
        self.assert_refused("/ 0\n@a 0\n0 set / 0 1", 2)

    def test_a_second_document(self):
        for at in range(1, 8):
            self.assert_refused("\n".join(ROWS[:at] + ROWS[:1] + ROWS[at:]), at)
            self.assert_refused("\n".join(ROWS[:at] + ("/ 0",)), at)

    def test_a_row_without_signs(self):
        for at in range(8):
            self.assert_refused("\n".join(ROWS[:at] + ("",) + ROWS[at:]), at)
            self.assert_refused("\n".join(ROWS[:at] + ("",)), at)
            self.assert_refused("\n".join(ROWS[:at] + ("", "")), at)
        self.assert_refused(TEXT + "\n", 7)
        self.assert_refused("/ 0\n", 1)

    def test_other_line_ends(self):
        self.assert_refused(TEXT.replace("\n", "\r\n"), 0)
        for end in ("\r", "\t", "\x0b", "\x0c", "\x1c", "\x85", "\u2028", " ", "; ", "\n\n"):
            at = 1 if end == "\n\n" else 0
            self.assert_refused(TEXT.replace("\n", end), at)

    def test_the_first_of_several(self):
        bad = ("/ 0,", "0 put /a 1", "2 put /x 1", "0 ", "@ 0", "@old 0", "@top 9")
        for at in range(7):
            self.assert_refused("\n".join(ROWS[:at] + bad[at:]), at)

    def test_rows_that_follow_a_refused_one_do_not_count(self):
        self.assert_refused("/ 0\n0 set / 1 2\n1 set / 2 3\n@a 2", 1)
        self.assert_refused("/ 0\n0 set / 0 2\n3 set / 2 3\n0 set / 0 1\n@a 2", 2)


class ByTheWords(TextCase):
    def test_one_sign_altered(self):
        text = "/ 0, /a 1\n0 put /b 2; cut /a 1\n1 set / 0 10\n@a 0\n@ab 2"
        read = [other for other in altered(text) if first_bad_row(other) is None]
        self.assertGreater(len(read), 30)
        for other in altered(text):
            self.assert_by_the_words(other)

    def test_rows_left_out_exchanged_and_told_again(self):
        for one in range(7):
            for other in range(7):
                rows = list(ROWS)
                rows[one], rows[other] = rows[other], rows[one]
                self.assert_by_the_words("\n".join(rows))
                rows = list(ROWS)
                rows.insert(one, rows.pop(other))
                self.assert_by_the_words("\n".join(rows))
                self.assert_by_the_words("\n".join(ROWS[:one] + ROWS[other:]))

    def test_some_boughs_altered(self):
        source = random.Random(56)
        for _ in range(150):
            rows = show_bough(with_words(source, some_bough(source, source.randrange(2, 12)))).split("\n")
            for _ in range(source.randrange(1, 3)):
                at = source.randrange(len(rows))
                way = source.randrange(4)
                if way == 0 and len(rows) > 1:
                    rows.pop(at)
                elif way == 1:
                    rows.insert(at, source.choice(rows))
                elif way == 2:
                    rows[at] = source.choice(altered(rows[at]))
                else:
                    rows[at] = str(source.randrange(12)) + rows[at][1:]
            self.assert_by_the_words("\n".join(rows))


class OwnersAndBounds(TextCase):
    def test_what_is_grown_on_the_one_that_was_read_is_not_on_the_one_that_was_written(self):
        bough = grown()
        kept = told_bough(bough)
        again = read_bough(show_bough(bough))
        self.assertEqual(again.grow(3, [Cut(("c",), 1)]), 4)
        again.drop("old")
        again.call("new", 4)
        self.assertEqual(told_bough(bough), kept)
        self.assertEqual(show_bough(bough), TEXT)

    def test_what_is_grown_on_the_one_that_was_written_is_not_on_the_one_that_was_read(self):
        bough = grown()
        again = read_bough(show_bough(bough))
        kept = told_bough(again)
        bough.grow(3, [Cut(("c",), 1)])
        bough.drop("old")
        bough.call("new", 4)
        self.assertEqual(told_bough(again), kept)

    def test_two_that_were_read_have_nothing_in_common(self):
        one, other = read_bough(TEXT), read_bough(TEXT)
        one.grow(0, [Set((), 0, 1)])
        one.call("new", 4)
        one.drop("top")
        self.assertEqual(show_bough(other), TEXT)

    def test_a_refusal_leaves_no_trace(self):
        for at in range(7):
            self.assert_refused("\n".join(ROWS[:at] + ("",) + ROWS[at:]), at)
            self.assertEqual(show_bough(read_bough(TEXT)), TEXT)

    def test_a_great_bough(self):
        # 120 stands, a root stand of 300 parts, rows of 60 deeds, paths of 40 names, numbers of sixty figures.
        bough = Bough(great_doc())
        long = ("a",) * 40
        for stand in range(1, 120):
            parent = 0 if stand % 4 == 1 else stand - 1
            old = bough.doc(parent)[long]
            numbers = [old] + [GREAT - stand * 60 - turn for turn in range(60)]
            bough.grow(parent, [Set(long, numbers[turn], numbers[turn + 1]) for turn in range(60)])
        for stand, word in enumerate(("top", "abcdefgh", "old", "a")):
            bough.call(word, 119 - stand)
        text = show_bough(bough)
        self.assertEqual(text.count("\n"), 123)
        self.assert_writes(bough, text)
        self.assert_refused(text + "\n@top 0", 124)

    def test_a_few_stands_more_are_not_refused(self):
        bough = Bough({(): 0})
        for stand in range(130):
            bough.grow(stand, [Set((), stand, stand + 1)])
        self.assert_writes(bough, show_bough(bough))


if __name__ == "__main__":
    unittest.main()
