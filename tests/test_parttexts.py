"""Promise [28] as far as it speaks of whole numbers, paths and documents, and [2] as far as it speaks of these."""

import itertools
import random
import re
import unittest

from boughback.errors import BoughError, NoText
from boughback.parttexts import read_doc, read_number, read_path, show_doc, show_number, show_path
from samples import DOC, NUMBER, PATH, altered, doc_by_the_words, great_doc, path_by_the_words, some_doc

GREAT = 10 ** 60 - 1


class TextCase(unittest.TestCase):
    def assert_refused(self, read, text):
        with self.assertRaises(BoughError, msg=repr(text)) as caught:
            read(text)
        self.assertIs(type(caught.exception), NoText, repr(text))
        self.assertEqual(caught.exception.at, 0)
        self.assertIs(type(caught.exception.at), int)

    def assert_writes(self, show, read, thing, text):
        """The thing is written by the text, and the text read as the thing, of the same kind."""
        self.assertEqual(show(thing), text)
        self.assertIs(type(show(thing)), str)
        self.assertEqual(read(text), thing)
        self.assertIs(type(read(text)), type(thing))


class Numbers(TextCase):
    def test_written_and_read_back(self):
        for number, text in ((0, "0"), (1, "1"), (9, "9"), (-1, "-1"), (-9, "-9"), (10, "10"), (-10, "-10"),
                             (100, "100"), (-100, "-100"), (1234567890, "1234567890"), (101, "101"), (-205, "-205")):
            self.assert_writes(show_number, read_number, number, text)

    def test_of_sixty_figures(self):
        for number, text in ((GREAT, "9" * 60), (-GREAT, "-" + "9" * 60), (10 ** 59, "1" + "0" * 59),
                             (-10 ** 59, "-1" + "0" * 59), (10 ** 60 - 2, "9" * 59 + "8")):
            self.assert_writes(show_number, read_number, number, text)

    def test_of_each_length(self):
        source = random.Random(52)
        for figures in range(1, 61):
            for _ in range(5):
                number = source.randrange(10 ** (figures - 1), 10 ** figures)
                self.assert_writes(show_number, read_number, number, str(number))
                self.assert_writes(show_number, read_number, -number, "-" + str(number))

    def test_refused(self):
        for text in ("", "-", "--", "-0", "00", "01", "007", "-01", "-00", "+1", "+0", "-+1", "--1", "1-", "1-1", "+",
                     " 1", "1 ", " ", "1 1", "\n1", "1\n", "1\n1", "\n", "\t1", "1\t", "\r1", "1\r", "1_000", "1,000",
                     "1.0", "1.", ".1", "1e3", "0x1", "0b1", "a", "one", "/", "/a", "- 1", "-\n1", "0 ", "0\n", "-0 "):
            self.assert_refused(read_number, text)

    def test_figures_that_are_none(self):
        for text in ("\u0661", "\u0663\u0663", "\u00b2", "\u00bd", "\uff11", "1\u0663", "\u06631", "-\u0663", "\u2160",
                     "\u4e00", "1\u00a0", "\u00a01", "1\u2003", "\u22121", "\u20131", "1\u0000", "1\x0b", "1\x1c"):
            self.assert_refused(read_number, text)

    def test_more_than_sixty_figures(self):
        for figures in (61, 62, 100, 4300, 4301, 10000):
            for text in ("1" + "0" * (figures - 1), "9" * figures, "-" + "9" * figures, "0" * figures,
                         "0" * (figures - 1) + "1"):
                self.assert_refused(read_number, text)

    def test_all_short_texts(self):
        read = 0
        for many in range(6):
            for signs in itertools.product("-0129 +", repeat=many):
                text = "".join(signs)
                if re.fullmatch(NUMBER, text):
                    self.assert_writes(show_number, read_number, int(text), text)
                    read += 1
                else:
                    self.assert_refused(read_number, text)
        # 0, and those of one to five figures, with a sign ahead where there is room for it.
        self.assertEqual(read, 1 + sum(3 * 4 ** more for more in range(5)) + sum(3 * 4 ** more for more in range(4)))

    def test_one_sign_altered(self):
        for text in ("0", "-1", "190", "-9" + "0" * 58, "9" * 60):
            for other in altered(text):
                if re.fullmatch(NUMBER, other):
                    self.assert_writes(show_number, read_number, int(other), other)
                else:
                    self.assert_refused(read_number, other)


class Paths(TextCase):
    def test_written_and_read_back(self):
        for path, text in (((), "/"), (("a",), "/a"), (("a", "b"), "/a/b"), (("b", "a"), "/b/a"), (("ab",), "/ab"),
                           (("abcdefgh",), "/abcdefgh"), (("z", "z", "z"), "/z/z/z"),
                           (("tree", "leaf", "tree"), "/tree/leaf/tree")):
            self.assert_writes(show_path, read_path, path, text)

    def test_of_forty_names(self):
        for path in (("a",) * 40, ("abcdefgh",) * 40, ("a", "ab") * 20, ("a",) * 39):
            self.assert_writes(show_path, read_path, path, "".join("/" + name for name in path))

    def test_more_than_forty_names(self):
        for names in (41, 42, 80, 400):
            self.assert_refused(read_path, "/a" * names)
            self.assert_refused(read_path, "/abcdefgh" * names)

    def test_refused(self):
        for text in ("", "a", "a/", "a/b", "//", "///", "/a/", "//a", "/a//b", "/a/b/", "/abcdefghi", "/a/abcdefghi",
                     "/A", "/aB", "/a/B", "/1", "/a1", "/a/0", "/a_b", "/a-b", "/a.b", "/.", "/..", " /", "/ ", " /a",
                     "/a ", "/ a", "/a /b", "/a b", "\n/", "/\n", "/a\n", "\n/a", "/a\n/b", "\t/a", "/a\t", "\\a", "0",
                     "1", "xa", "-a", "aa/b", "/\u00e4", "/a\u00e4", "/\u0430", "/a\u00a0", "/\uff41"):
            self.assert_refused(read_path, text)

    def test_all_short_texts(self):
        for many in range(6):
            for signs in itertools.product("/abA0 \n", repeat=many):
                text = "".join(signs)
                if re.fullmatch(PATH, text):
                    self.assert_writes(show_path, read_path, path_by_the_words(text), text)
                else:
                    self.assert_refused(read_path, text)

    def test_one_sign_altered(self):
        for text in ("/", "/a", "/abcdefgh/ab", "/a" * 40, "/abcdefgh" * 40):
            for other in altered(text):
                if re.fullmatch(PATH, other):
                    self.assert_writes(show_path, read_path, path_by_the_words(other), other)
                else:
                    self.assert_refused(read_path, other)


class Documents(TextCase):
    def test_written_and_read_back(self):
        for doc, text in (({(): 0}, "/ 0"), ({(): -5}, "/ -5"), ({(): GREAT}, "/ " + "9" * 60),
                          ({(): 0, ("a",): 1}, "/ 0, /a 1"),
                          ({(): 0, ("a",): 1, ("a", "b"): -2, ("c",): 1}, "/ 0, /a 1, /a/b -2, /c 1"),
                          ({(): 1, ("a",): 1, ("a", "z"): 1, ("ab",): 1, ("ab", "a"): 1, ("b",): 1},
                           "/ 1, /a 1, /a/z 1, /ab 1, /ab/a 1, /b 1")):
            self.assert_writes(show_doc, read_doc, doc, text)

    def test_parts_are_sorted_whatever_order_they_have_in_the_dict(self):
        doc = {(): 4, ("a",): 3, ("a", "b"): 2, ("ab",): 1}
        for parts in itertools.permutations(doc.items()):
            self.assertEqual(show_doc(dict(parts)), "/ 4, /a 3, /a/b 2, /ab 1")

    def test_parts_may_stand_in_any_order(self):
        for parts in itertools.permutations(("/ 4", "/a 3", "/a/b 2", "/ab 1")):
            self.assertEqual(read_doc(", ".join(parts)), {(): 4, ("a",): 3, ("a", "b"): 2, ("ab",): 1})

    def test_a_part_told_twice(self):
        for text in ("/ 0, / 0", "/ 0, / 1", "/ 0, /a 1, /a 1", "/ 0, /a 1, /a 2", "/ 0, /a 1, / 0",
                     "/a 1, / 0, /b 2, /a 1", "/a 1, /a 1, / 0", "/ 0, /a 1, /a/b 2, /c 3, /a/b 4"):
            self.assert_refused(read_doc, text)

    def test_without_the_root(self):
        for text in ("/a 1", "/a 1, /b 2", "/a 1, /a/b 2", "/a/b 2"):
            self.assert_refused(read_doc, text)

    def test_a_part_whose_place_is_not_there(self):
        for text in ("/ 0, /a/b 1", "/a/b 1, / 0", "/ 0, /a 1, /a/b/c 2", "/ 0, /a 1, /ab/c 2", "/ 0, /b 1, /a/b 1",
                     "/ 0, /a 1, /a/b 1, /a/c/d 1"):
            self.assert_refused(read_doc, text)

    def test_another_parting(self):
        for text in ("/ 0,/a 1", "/ 0 /a 1", "/ 0 , /a 1", "/ 0,  /a 1", "/ 0; /a 1", "/ 0;/a 1", "/ 0\n/a 1",
                     "/ 0,\n/a 1", "/ 0, \n/a 1", "/ 0,\t/a 1", "/ 0, /a 1,", "/ 0, /a 1, ", ", / 0, /a 1", ",/ 0",
                     "/ 0, , /a 1", "/ 0,, /a 1", "/ 0, /a 1\n", "\n/ 0, /a 1", " / 0", "/ 0 ", "/  0", "/0", "/\t0",
                     "/\n0", "/, 0", "/:0", "/ 0: 1", "{(): 0}"):
            self.assert_refused(read_doc, text)

    def test_parts_that_are_none(self):
        for text in ("", " ", "\n", "/", "0", "0 /", "/ ", " 0", "/ 0 0", "/ 0, /a", "/ 0, 1", "/ 0, /a 1 2", "/ a",
                     "/ -0", "/ 00", "/ +1", "/ 0, /a 01", "/ 0, /A 1", "/ 0, /abcdefghi 1", "/ 0, a 1", "/ 0, /a/ 1",
                     "/ 0, //a 1", "/ 1" + "0" * 60, "/ 0, /a -1" + "0" * 60, "/ \u0663", "/ 0, put /a 1"):
            self.assert_refused(read_doc, text)

    def test_more_than_forty_names(self):
        forty = ["/ 0"] + ["/a" * names + " 1" for names in range(1, 41)]
        self.assertEqual(len(read_doc(", ".join(forty))), 41)
        self.assert_refused(read_doc, ", ".join(forty + ["/a" * 41 + " 1"]))

    def test_some_documents(self):
        source = random.Random(53)
        for _ in range(100):
            doc = some_doc(source, source.randrange(1, 30))
            text = show_doc(doc)
            self.assertRegex(text, rf"\A{DOC}\Z")
            parts = text.split(", ")
            self.assertEqual(parts, sorted(parts))
            self.assert_writes(show_doc, read_doc, doc, text)
            source.shuffle(parts)
            self.assertEqual(read_doc(", ".join(parts)), doc)

    def test_one_sign_altered(self):
        read = 0
        for text in ("/ 0", "/ 10, /a -1", "/ 0, /a 1, /a/b 2, /ab 3, /ab/ab 19"):
            for other in altered(text):
                doc = doc_by_the_words(other)
                if doc is None:
                    self.assert_refused(read_doc, other)
                else:
                    self.assertEqual(read_doc(other), doc)
                    read += 1
        self.assertGreater(read, 50)

    def test_parts_left_out_and_told_again(self):
        parts = ["/ 0", "/a 1", "/a/b 2", "/ab 3", "/ab/ab 19"]
        for many in range(5):
            for chosen in itertools.product(parts, repeat=many):
                doc = doc_by_the_words(", ".join(chosen))
                if doc is None:
                    self.assert_refused(read_doc, ", ".join(chosen))
                else:
                    self.assertEqual(read_doc(", ".join(chosen)), doc)


class OwnersAndBounds(TextCase):
    def test_what_is_handed_in_is_not_altered(self):
        doc = {("b",): 1, (): 0, ("a",): 2}
        kept = list(doc.items())
        show_doc(doc)
        self.assertEqual(list(doc.items()), kept)

    def test_what_is_told_belongs_to_its_asker(self):
        doc = read_doc("/ 0, /a 1")
        doc[("b",)] = 2
        doc.pop(("a",))
        self.assertEqual(read_doc("/ 0, /a 1"), {(): 0, ("a",): 1})

    def test_a_refusal_leaves_no_trace(self):
        for text in ("/ 0, /a 1, /a 2", "/ 0, /b 1, /c", "/b 1"):
            self.assert_refused(read_doc, text)
            self.assertEqual(read_doc("/ 0, /a 1"), {(): 0, ("a",): 1})

    def test_a_document_of_three_hundred_parts(self):
        doc = great_doc()
        text = show_doc(doc)
        self.assertEqual(text.count(", "), 299)
        self.assert_writes(show_doc, read_doc, doc, text)
        # A few parts more are not refused.
        more = text + ", /zy 1, /zz " + str(-GREAT)
        self.assert_writes(show_doc, read_doc, {**doc, ("zy",): 1, ("zz",): -GREAT}, more)


if __name__ == "__main__":
    unittest.main()
