"""Promise [28] as far as it speaks of deeds and rows, and [2] as far as it speaks of these."""

import random
import re
import unittest

from boughback.deeds import Cut, Deed, Move, Put, Set, deed_of
from boughback.deedtexts import read_deed, read_row, show_deed, show_row
from boughback.errors import BoughError, NoText
from boughback.rows import row_back, row_done, row_told
from samples import DEED, altered, deed_by_the_words, fitting_row, row_by_the_words, some_doc

GREAT = 10 ** 60 - 1
LONG = "/abcdefgh" * 40
KINDS = {"put": Put, "cut": Cut, "set": Set, "move": Move}
# Each text with the tuple that tells its deed.
DEEDS = (
    ("put /a 1", ("put", ("a",), 1)),
    ("put /a/b/c -12", ("put", ("a", "b", "c"), -12)),
    ("cut /a 0", ("cut", ("a",), 0)),
    ("cut /ab/a 307", ("cut", ("ab", "a"), 307)),
    ("set / 0 1", ("set", (), 0, 1)),
    ("set /tree/leaf -7 20", ("set", ("tree", "leaf"), -7, 20)),
    ("move /a /b", ("move", ("a",), ("b",))),
    ("move /a/b /a", ("move", ("a", "b"), ("a",))),
)
# These fit no document.
FITTING_NONE = (
    ("put / 1", ("put", (), 1)),
    ("cut / 0", ("cut", (), 0)),
    ("set /a 1 1", ("set", ("a",), 1, 1)),
    ("set / 0 0", ("set", (), 0, 0)),
    ("move / /a", ("move", (), ("a",))),
    ("move /a /", ("move", ("a",), ())),
    ("move / /", ("move", (), ())),
    ("move /a /a", ("move", ("a",), ("a",))),
    ("move /a /a/b", ("move", ("a",), ("a", "b"))),
)
NO_DEEDS = (
    "", " ", "\n", "/a 1", "put", "put ", "put /a", "put /a ", "put 1", "put 1 /a", "put /a 1 2", "put /a 1 ",
    " put /a 1", "put  /a 1", "put /a  1", "put\t/a 1", "put /a\t1", "put /a 1\n", "\nput /a 1", "put /a\n1",
    "put/a 1", "put /a1", "put /a, 1", "put /a 1,", "put /a 1;", "put /a 1; ", "put /a /b", "put a 1", "put /a b",
    "put /a 01", "put /a -0", "put /a +1", "put /A 1", "put /abcdefghi 1", "put /a/ 1", "put //a 1", "Put /a 1",
    "PUT /a 1", "puts /a 1", "pu /a 1", "cut", "cut /a", "cut /a 1 2", "cut /a /b", "cut /a 1 ", "Cut /a 1", "set /a",
    "set /a 1", "set /a 1 2 3", "set /a 1  2", "set /a  1 2", "set 1 2 /a", "set /a /b 1", "set /a 1 /b",
    "set /a 01 2", "set /a 1 02", "set /a 1 2 ", "Set /a 1 2", "move /a", "move /a /b /c", "move /a 1", "move 1 /a",
    "move /a  /b", "move /a /b ", "move /a /b 1", "move a /b", "move /a b", "Move /a /b", "move /a/b", "take /a 1",
    "del /a", "deed", "put; cut", "('put', ('a',), 1)",
)
# None of these parts two deeds.
PARTINGS = (";", " ; ", " ;", ";  ", ",", ", ", " ", "  ", "\n", ";\n", "; \n", "\n; ", ";\t", ".", ". ", ":", "|",
            "; ; ", ";; ", "", "; put ")


class TextCase(unittest.TestCase):
    def assert_refused(self, read, text):
        with self.assertRaises(BoughError, msg=repr(text)) as caught:
            read(text)
        self.assertIs(type(caught.exception), NoText, repr(text))
        self.assertEqual(caught.exception.at, 0)
        self.assertIs(type(caught.exception.at), int)

    def assert_told(self, deed, told):
        self.assertIs(type(deed), KINDS[told[0]])
        self.assertIsInstance(deed, Deed)
        self.assertEqual(deed.told(), told)
        self.assertEqual([type(part) for part in deed.told()], [type(part) for part in told])

    def assert_writes_deed(self, text, told):
        self.assertEqual(show_deed(deed_of(told)), text)
        self.assert_told(read_deed(text), told)

    def assert_writes_row(self, text, told):
        self.assertEqual(show_row([deed_of(each) for each in told]), text)
        row = read_row(text)
        self.assertIs(type(row), list)
        self.assertEqual(len(row), len(told))
        for deed, wanted in zip(row, told):
            self.assert_told(deed, wanted)


class Deeds(TextCase):
    def test_written_and_read_back(self):
        for text, told in DEEDS:
            self.assert_writes_deed(text, told)

    def test_those_that_fit_no_document(self):
        for text, told in FITTING_NONE:
            self.assert_writes_deed(text, told)

    def test_great_numbers_and_long_paths(self):
        long = ("abcdefgh",) * 40
        great = "9" * 60
        for text, told in ((f"put {LONG} {great}", ("put", long, GREAT)),
                           (f"cut {LONG} -{great}", ("cut", long, -GREAT)),
                           (f"set {LONG} -{great} {great}", ("set", long, -GREAT, GREAT)),
                           (f"move {LONG} {LONG}", ("move", long, long))):
            self.assert_writes_deed(text, told)

    def test_refused(self):
        for text in NO_DEEDS:
            self.assert_refused(read_deed, text)

    def test_numbers_of_more_than_sixty_figures(self):
        for number in ("1" + "0" * 60, "-1" + "0" * 60, "9" * 61, "9" * 5000):
            for text in ("put /a N", "cut /a N", "set /a N 1", "set /a 1 N"):
                self.assert_refused(read_deed, text.replace("N", number))

    def test_paths_of_more_than_forty_names(self):
        for text in ("put P 1", "cut P 1", "set P 1 2", "move P /a", "move /a P", "move P P"):
            self.assert_refused(read_deed, text.replace("P", "/a" * 41))

    def test_two_deeds_are_none(self):
        self.assert_refused(read_deed, "put /a 1; put /b 1")

    def test_one_sign_altered(self):
        read = 0
        for text, told in DEEDS + FITTING_NONE:
            for other in altered(text):
                if re.fullmatch(DEED, other):
                    self.assert_writes_deed(other, deed_by_the_words(other))
                    read += 1
                else:
                    self.assert_refused(read_deed, other)
        self.assertGreater(read, 300)

    def test_a_word_too_many_too_few_or_another_one(self):
        words = ("put", "cut", "set", "move", "/", "/a", "0", "1", "")
        for text, told in DEEDS:
            old = text.split(" ")
            for at in range(len(old) + 1):
                others = [old[:at] + [word] + old[at:] for word in words]
                others += [old[:at] + [word] + old[at + 1:] for word in words] + [old[:at] + old[at + 1:]]
                for other in [" ".join(each) for each in others]:
                    if re.fullmatch(DEED, other):
                        self.assert_writes_deed(other, deed_by_the_words(other))
                    else:
                        self.assert_refused(read_deed, other)


class Rows(TextCase):
    def test_without_deeds(self):
        self.assert_writes_row("", [])

    def test_of_one(self):
        for text, told in DEEDS + FITTING_NONE:
            self.assert_writes_row(text, [told])

    def test_of_several(self):
        for many in range(2, 9):
            texts, tuples = zip(*DEEDS[:many])
            self.assert_writes_row("; ".join(texts), list(tuples))
        self.assert_writes_row("put /a 1; put /a 1", [("put", ("a",), 1)] * 2)
        self.assert_writes_row("move /a /; set / 0 0; put / 1",
                               [("move", ("a",), ()), ("set", (), 0, 0), ("put", (), 1)])

    def test_some_rows(self):
        source = random.Random(54)
        for _ in range(60):
            doc = some_doc(source, 6)
            row = fitting_row(source, doc, source.randrange(20))
            self.assert_writes_row("; ".join(show_deed(deed) for deed in row), row_told(row))
            after = row_done(doc, row)
            self.assertEqual(row_done(doc, read_row(show_row(row))), after)
            self.assertEqual(row_done(after, read_row(show_row(row_back(row)))), doc)

    def test_a_deed_that_is_none(self):
        for text in NO_DEEDS:
            if text:
                self.assert_refused(read_row, text)
            self.assert_refused(read_row, "put /x 1; " + text)
            self.assert_refused(read_row, text + "; put /x 1")
            self.assert_refused(read_row, "put /x 1; " + text + "; put /y 1")

    def test_another_parting(self):
        for parting in PARTINGS:
            self.assert_refused(read_row, "put /a 1" + parting + "put /b 1")
            self.assert_refused(read_row, "put /a 1; put /c 1" + parting + "move /b /d; cut /a 1")

    def test_a_parting_ahead_or_behind(self):
        for parting in ("; ", ";", " ", "\n", ";\n"):
            for text in ("put /a 1", "put /a 1; put /b 1"):
                self.assert_refused(read_row, parting + text)
                self.assert_refused(read_row, text + parting)
            self.assert_refused(read_row, parting)

    def test_one_sign_altered(self):
        read = 0
        for text in ("put /a 1; set /a 1 20; cut /a 20", "move /ab /; put / -1", "set / 0 1", ""):
            for other in altered(text):
                told = row_by_the_words(other)
                if told is None:
                    self.assert_refused(read_row, other)
                else:
                    self.assert_writes_row(other, told)
                    read += 1
        self.assertGreater(read, 50)


class OwnersAndBounds(TextCase):
    def test_what_is_handed_in_is_not_altered(self):
        row = [Put(("a",), 1), Cut(("a",), 1)]
        kept = list(row)
        show_row(row)
        self.assertEqual(row, kept)
        self.assertEqual(row_told(row), [("put", ("a",), 1), ("cut", ("a",), 1)])

    def test_what_is_told_belongs_to_its_asker(self):
        for text in ("", "put /a 1", "put /a 1; cut /a 1"):
            row = read_row(text)
            row.append(Put(("b",), 2))
            row[0] = Put(("c",), 3)
            self.assertEqual(show_row(read_row(text)), text)

    def test_rows_of_four_hundred_deeds_and_some_more(self):
        row = [Set(("abcdefgh",) * 40, number - GREAT, GREAT - number) for number in range(410)]
        self.assert_writes_row("; ".join(show_deed(deed) for deed in row), row_told(row))


if __name__ == "__main__":
    unittest.main()
