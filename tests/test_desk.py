"""Promise [30], and [2] as far as it speaks of the desk."""

import random
import re
import unittest

from boughback.boughtexts import read_bough, show_bough
from boughback.deedtexts import read_row, show_row
from boughback.desk import Desk
from boughback.differ import differ
from boughback.errors import BoughError, Clash, Hangs, NoDeed, NoRoom, NoStand, NoText, NoWord, Twice, Unfit
from boughback.parttexts import show_doc, show_path
from boughback.plans import plan, tree_of
from boughback.pouring import carry, pour, take_out
from boughback.ways import way_row
from samples import DEED, altered, fitting_row, great_doc, some_bough

GREAT = 10 ** 60 - 1
ROWS = (
    "/ 0, /a 1, /b 2, /c 3",
    "0 set /a 1 5",
    "1 put /a/x 9; set / 0 4",
    "0 move /a /d",
    "0 set /a 1 6; set /b 2 7",
    "2 set /b 2 8",
    "@left 5",
    "@right 3",
    "@trunk 0",
)
TEXT = "\n".join(ROWS)
STANDS = "\n".join(ROWS[:6])
WORDS = "\n".join(ROWS[6:])
# By the words of the document: each row that may be said.
STAND = r"(?:0|[1-9][0-9]{0,59}|[a-z]{1,8})"
SAID = (rf"grow {STAND} {DEED}(?:; {DEED})*|doc {STAND}|(?:way|differ|out|carry|pour) {STAND} {STAND}|"
        rf"plan (?:0|[1-9][0-9]{{0,59}})|word [a-z]{{1,8}} {STAND}|drop [a-z]{{1,8}}|text")
TWO_STANDS = ("way", "differ", "out", "carry", "pour")


def told_stand(bough, text):
    """The stand that is told by its number or a word."""
    stand = bough.called(text) if text.isalpha() else int(text)
    bough.doc(stand)
    return stand


def answered_pour(bough, one, other):
    poured = pour(bough, one, other)
    if poured[0] == "met":
        return "met {} {}".format(*poured[1:])
    return "clash" + "".join(f" {left} {right} {show_path(part)}" for left, right, part in poured[1])


def answered_of_two(bough, kind, one, other):
    """What the modules beneath answer of two stands."""
    if kind == "way":
        return show_row(way_row(bough, one, other))
    if kind == "differ":
        return show_row(differ(bough.doc(one), bough.doc(other)))
    if kind == "out":
        new, row = take_out(bough, one, other)
        return f"{new[-1] if new else bough.parent(other)} {show_row(row)}"
    if kind == "carry":
        return str(carry(bough, one, other))
    return answered_pour(bough, one, other)


def answered(bough, row):
    """What the modules beneath answer to the row, which must be one that may be said."""
    kind, *words = row.split(" ")
    if kind == "text":
        return show_bough(bough)
    if kind == "plan":
        far, stands, shares = plan(*tree_of(bough), int(words[0]))
        return " ".join(str(each) for each in [far, *stands])
    if kind == "drop":
        bough.drop(words[0])
        return "ok"
    if kind == "word":
        if words[0] in bough.words():
            raise Twice()
        bough.call(words[0], told_stand(bough, words[1]))
        return "ok"
    one = told_stand(bough, words[0])
    if kind == "grow":
        return str(bough.grow(one, read_row(" ".join(words[1:]))))
    if kind == "doc":
        return show_doc(bough.doc(one))
    return answered_of_two(bough, kind, one, told_stand(bough, words[1]))


def outcome(say, row):
    """What comes of the row: the answer, or the refusal's class with its values."""
    try:
        return say(row)
    except BoughError as refusal:
        return type(refusal), getattr(refusal, "at", None), getattr(refusal, "part", None)


class DeskCase(unittest.TestCase):
    def assert_says(self, desk, row, answer):
        told = desk.say(row)
        self.assertEqual(told, answer, row)
        self.assertIs(type(told), str)

    def assert_asks(self, row, answer):
        """The answer, of a new desk; nothing is changed by it."""
        desk = Desk(TEXT)
        self.assert_says(desk, row, answer)
        self.assertEqual(desk.say("text"), TEXT)
        self.assert_says(desk, row, answer)

    def assert_grows(self, row, answer, *rows):
        """The answer, of a new desk, and the rows of the stands that are grown."""
        desk = Desk(TEXT)
        self.assert_says(desk, row, answer)
        self.assertEqual(desk.say("text"), "\n".join((STANDS, *rows, WORDS)))

    def assert_refused(self, row, error, at=None, part=None, desk=None):
        """Refused so, and all is as it was: the text, and the number that the next stand gets."""
        desk = desk or Desk(TEXT)
        text = desk.say("text")
        with self.assertRaises(BoughError, msg=repr(row)) as caught:
            desk.say(row)
        self.assertIs(type(caught.exception), error, repr(row))
        self.assertEqual(getattr(caught.exception, "at", None), at, repr(row))
        self.assertEqual(getattr(caught.exception, "part", None), part, repr(row))
        self.assertEqual(desk.say("text"), text)
        many = read_bough(text).many()
        self.assertEqual(desk.say("grow 0 put /zz 1"), str(many))
        self.assertEqual(desk.say(f"way 0 {many}"), "put /zz 1")


class Asked(DeskCase):
    def test_doc(self):
        self.assert_asks("doc 0", "/ 0, /a 1, /b 2, /c 3")
        self.assert_asks("doc trunk", "/ 0, /a 1, /b 2, /c 3")
        self.assert_asks("doc 3", "/ 0, /b 2, /c 3, /d 1")
        self.assert_asks("doc right", "/ 0, /b 2, /c 3, /d 1")
        self.assert_asks("doc left", "/ 4, /a 5, /a/x 9, /b 8, /c 3")

    def test_way(self):
        self.assert_asks("way 0 1", "set /a 1 5")
        self.assert_asks("way 1 0", "set /a 5 1")
        self.assert_asks("way 2 3", "set / 4 0; cut /a/x 9; set /a 5 1; move /a /d")
        self.assert_asks("way right left", "move /d /a; set /a 1 5; put /a/x 9; set / 0 4; set /b 2 8")
        self.assert_asks("way trunk 4", "set /a 1 6; set /b 2 7")
        self.assert_asks("way 4 trunk", "set /b 7 2; set /a 6 1")

    def test_way_to_itself(self):
        for row in ("way 0 0", "way 5 5", "way left left", "way 5 left", "way right 3"):
            self.assert_asks(row, "")

    def test_differ(self):
        self.assert_asks("differ 0 3", "cut /a 1; put /d 1")
        self.assert_asks("differ right trunk", "cut /d 1; put /a 1")
        self.assert_asks("differ left 4", "cut /a/x 9; set / 4 0; set /a 5 6; set /b 8 7")
        self.assert_asks("differ 4 left", "put /a/x 9; set / 0 4; set /a 6 5; set /b 7 8")
        self.assert_asks("differ 3 left", "cut /d 1; put /a 5; put /a/x 9; set / 0 4; set /b 2 8")

    def test_differ_of_documents_that_are_alike(self):
        self.assert_asks("differ 4 4", "")
        desk = Desk("/ 0\n0 set / 0 1\n1 set / 1 0")
        self.assert_says(desk, "differ 0 2", "")
        self.assert_says(desk, "way 0 2", "set / 0 1; set / 1 0")

    def test_plan(self):
        # The sizes are 4, 4, 5, 4, 4 and 5, the lengths 0, 1, 2, 1, 2 and 1.
        self.assert_asks("plan 26", "0 0 1 2 3 4 5")
        self.assert_asks("plan 100", "0 0 1 2 3 4 5")
        self.assert_asks("plan " + "9" * 60, "0 0 1 2 3 4 5")
        self.assert_asks("plan 4", "3 1")
        self.assert_asks("plan 7", "3 1")

    def test_plan_of_one_stand(self):
        desk = Desk("/ 0")
        self.assert_says(desk, "plan 1", "0 0")
        self.assert_says(desk, "plan 10", "0 0")

    def test_plan_is_that_of_the_bough_as_it_is_by_then(self):
        desk = Desk("/ 0\n0 set / 0 1; set / 1 2")
        self.assert_says(desk, "plan 2", "0 0 1")
        desk.say("grow 1 set / 2 3")
        self.assert_says(desk, "plan 1", "2 1")
        desk.say("grow 1 put /a 1; put /b 1; put /c 1")
        self.assert_says(desk, "plan 1", "3 1")
        self.assert_says(desk, "plan 7", "0 0 1 2 3")

    def test_text(self):
        self.assert_asks("text", TEXT)
        self.assert_says(Desk("/a 1, / 0"), "text", "/ 0, /a 1")


class Grown(DeskCase):
    def test_grow(self):
        self.assert_grows("grow 0 put /x 1", "6", "0 put /x 1")
        self.assert_grows("grow left put /x 1; move /x /y; cut /y 1", "6", "5 put /x 1; move /x /y; cut /y 1")
        self.assert_grows("grow 3 cut /d 1", "6", "3 cut /d 1")
        self.assert_grows("grow trunk set / 0 -" + "9" * 60, "6", "0 set / 0 -" + "9" * 60)

    def test_one_behind_another(self):
        desk = Desk("/ 0")
        for stand in range(12):
            self.assert_says(desk, f"grow {stand} set / {stand} {stand + 1}", str(stand + 1))
        self.assert_says(desk, "doc 12", "/ 12")
        self.assert_says(desk, "grow 3 put /a 1", "13")
        self.assert_says(desk, "doc 13", "/ 3, /a 1")

    def test_the_same_row_twice(self):
        desk = Desk("/ 0")
        self.assert_says(desk, "grow 0 put /a 1", "1")
        self.assert_says(desk, "grow 0 put /a 1", "2")
        self.assert_says(desk, "text", "/ 0\n0 put /a 1\n0 put /a 1")

    def test_out(self):
        self.assert_grows("out 5 1", "7 set /a 1 5", "0 put /a/x 9; set / 0 4", "6 set /b 2 8")
        self.assert_grows("out left 1", "7 set /a 1 5", "0 put /a/x 9; set / 0 4", "6 set /b 2 8")
        self.assert_grows("out 5 2", "6 put /a/x 9; set / 0 4", "1 set /b 2 8")
        self.assert_grows("out 2 1", "6 set /a 1 5", "0 put /a/x 9; set / 0 4")

    def test_out_without_later_stands(self):
        self.assert_asks("out 5 5", "2 set /b 2 8")
        self.assert_asks("out left left", "2 set /b 2 8")
        self.assert_asks("out right right", "0 move /a /d")
        self.assert_asks("out 4 4", "0 set /a 1 6; set /b 2 7")

    def test_out_with_paths_carried(self):
        desk = Desk("/ 0, /a 1\n0 move /a /b\n1 put /b/c 2; set /b 1 3\n2 move /b /e\n@top 3")
        self.assert_says(desk, "out 2 1", "4 move /a /b")
        self.assert_says(desk, "way 0 4", "put /a/c 2; set /a 1 3")
        # Of 3 the part hangs on 1: what is moved once more is moved by both.
        self.assert_refused("out top 1", Hangs, 3, ("b",), desk=desk)

    def test_carry(self):
        self.assert_grows("carry 3 2", "6", "2 move /a /d")
        self.assert_grows("carry right left", "6", "5 move /a /d")
        self.assert_grows("carry 1 3", "6", "3 set /d 1 5")
        self.assert_grows("carry 2 right", "6", "3 put /d/x 9; set / 0 4")
        self.assert_grows("carry left trunk", "6", "0 set /b 2 8")
        self.assert_grows("carry 3 0", "6", "0 move /a /d")

    def test_pour(self):
        self.assert_grows("pour 2 3", "met 6 7", "2 move /a /d", "3 set /d 1 5; put /d/x 9; set / 0 4")
        self.assert_grows("pour right 2", "met 6 7", "3 set /d 1 5; put /d/x 9; set / 0 4", "2 move /a /d")
        desk = Desk(TEXT)
        desk.say("pour left right")
        self.assertEqual(desk.say("doc 6"), desk.say("doc 7"))
        self.assertEqual(desk.say("doc 6"), "/ 4, /b 8, /c 3, /d 5, /d/x 9")

    def test_pour_on_one_line(self):
        for row, answer in (("pour 0 5", "met 5 5"), ("pour 5 0", "met 5 5"), ("pour left 1", "met 5 5"),
                            ("pour 1 2", "met 2 2"), ("pour 3 3", "met 3 3"), ("pour trunk trunk", "met 0 0"),
                            ("pour left 5", "met 5 5")):
            self.assert_asks(row, answer)

    def test_pour_with_clashes(self):
        self.assert_asks("pour 1 4", "clash 1 4 /a")
        self.assert_asks("pour left 4", "clash 1 4 /a")
        self.assert_asks("pour 4 left", "clash 4 1 /a")
        desk = Desk("/ 0, /a 1, /b 2\n0 set /a 1 5\n1 set / 0 6; set /b 2 7\n0 set /b 2 8; set / 0 9\n3 put /c 1")
        self.assert_says(desk, "pour 2 4", "clash 2 3 / 2 3 /b")
        self.assert_says(desk, "pour 4 2", "clash 3 2 / 3 2 /b")
        desk.say("grow 4 set /a 1 0")
        self.assert_says(desk, "pour 2 5", "clash 1 5 /a 2 3 / 2 3 /b")
        self.assert_says(desk, "pour 5 2", "clash 3 2 / 3 2 /b 5 1 /a")


class Words(DeskCase):
    def test_given_and_dropped(self):
        desk = Desk("/ 0\n0 set / 0 1")
        self.assert_says(desk, "word top 1", "ok")
        self.assert_says(desk, "doc top", "/ 1")
        self.assert_says(desk, "word up top", "ok")
        self.assert_says(desk, "text", "/ 0\n0 set / 0 1\n@top 1\n@up 1")
        self.assert_says(desk, "drop top", "ok")
        self.assert_says(desk, "doc up", "/ 1")
        self.assert_says(desk, "text", "/ 0\n0 set / 0 1\n@up 1")
        self.assert_says(desk, "word top 0", "ok")
        self.assert_says(desk, "doc top", "/ 0")
        self.assert_says(desk, "way top up", "set / 0 1")

    def test_words_like_those_of_rows(self):
        desk = Desk("/ 0")
        for word in TWO_STANDS + ("grow", "doc", "plan", "word", "drop", "text", "ok", "put"):
            self.assert_says(desk, f"word {word} 0", "ok")
            self.assert_says(desk, f"doc {word}", "/ 0")
        self.assert_says(desk, "grow grow set / 0 1", "1")
        self.assert_says(desk, "way text text", "")
        self.assert_says(desk, "drop drop", "ok")
        self.assert_says(desk, "drop text", "ok")

    def test_the_longest_word(self):
        desk = Desk("/ 0")
        self.assert_says(desk, "word abcdefgh 0", "ok")
        self.assert_says(desk, "doc abcdefgh", "/ 0")

    def test_a_word_stays_with_its_stand(self):
        desk = Desk(TEXT)
        desk.say("grow left put /y 1")
        self.assert_says(desk, "way 5 left", "")
        self.assert_says(desk, "drop left", "ok")
        self.assert_says(desk, "word left 6", "ok")
        self.assert_says(desk, "way 5 left", "put /y 1")


class NoRow(DeskCase):
    def test_refused(self):
        for row in ("", " ", "\n", "doc", "doc ", "doc  0", " doc 0", "doc 0 ", "doc 0 0", "doc 0\n", "\ndoc 0",
                    "doc\t0", "doc\n0", "Doc 0", "DOC 0", "docs 0", "do 0", "doc0", "doc 0,", "doc -0", "doc -1",
                    "doc 00", "doc 05", "doc +5", "doc 5.0", "doc left ", "doc Left", "doc LEFT", "doc @left",
                    "doc /", "doc /a", "doc left1", "doc abcdefghi", "doc le-ft", "doc le ft", "doc " + "9" * 61,
                    "doc \u0665", "doc \u00e4", "doc ()", "0", "left", "/ 0", "put /a 1", "ok", "text ", " text",
                    "text 0", "text\n", "Text", "text left", "texts", "quit", "help", "grow", "@left 5", "0 put /x 1"):
            self.assert_refused(row, NoText, 0)

    def test_two_stands(self):
        for kind in TWO_STANDS:
            for rest in ("", " ", " 5", " 5 ", " 5 1 ", " 5  1", "  5 1", " 5 1 1", " 5 -1", " -5 1", " 05 1",
                         " 5 01", " 5 -0", " left", " left ", " left Left", " Left left", " 5,1", " 5, 1", " 5\t1",
                         " 5\n1", " 5 1\n", " 5 abcdefghi", " abcdefghi 1", " 5 " + "1" * 61, " " + "1" * 61 + " 5",
                         " 5 /", " / 5"):
                self.assert_refused(kind + rest, NoText, 0)
            self.assert_refused(kind.upper() + " 5 1", NoText, 0)
            self.assert_refused(kind + "s 5 1", NoText, 0)

    def test_grow(self):
        for rest in ("", " ", " 0", " 0 ", " 0  ", "  put /x 1", " put /x 1", " 0  put /x 1", " 0 put /x 1 ",
                     " 0 put /x 1;", " 0 put /x 1; ", " 0 ; put /x 1", " 0 put /x", " 0 put /x 01",
                     " 0 put /x 1;put /y 1", " 0 put x 1", " 0 put /x 1\n", " 0 put /x 1\nput /y 1", " 0 Put /x 1",
                     " 0 /x 1", " 0 0 put /x 1", " -1 put /x 1", " -0 put /x 1", " 00 put /x 1", " Left put /x 1",
                     " left", " left ", " 0 put /X 1", " 0 put " + "/x" * 41 + " 1", " 0 put /x 1" + "0" * 60,
                     " " + "9" * 61 + " put /x 1"):
            self.assert_refused("grow" + rest, NoText, 0)

    def test_plan(self):
        for rest in ("", " ", " -1", " -0", " 00", " 010", " +9", " 9 ", "  9", " 9 9", " 9\n", " left", " trunk", " a",
                     " 9.0", " " + "9" * 61, " 1" + "0" * 60, " /", " 9 0"):
            self.assert_refused("plan" + rest, NoText, 0)

    def test_words(self):
        for rest in ("", " ", " new", " new ", " new 5 ", " new  5", "  new 5", " new 5 5", " New 5", " NEW 5",
                     " n1 5", " 5 5", " 5 new", " @new 5", " abcdefghi 5", " new -1", " new -0", " new 05",
                     " new Left", " new @left", " new 5\n", " new\n5", " n-w 5", " /new 5", " new " + "9" * 61,
                     " new abcdefghi", " \u00e4 5"):
            self.assert_refused("word" + rest, NoText, 0)
        for rest in ("", " ", " Left", " LEFT", " left ", "  left", " left 5", " left right", " 5", " 0", " @left",
                     " abcdefghi", " left\n", " l1", " -", " /"):
            self.assert_refused("drop" + rest, NoText, 0)

    def test_ahead_of_all_else(self):
        # With the one thing mended each would be refused otherwise.
        for row in ("doc 99 ", "doc nope ", "way 99", "way nope", "way 99 -1", "way nope Nope", "out 99 01",
                    "out 0 0 ", "carry nope 0 0", "carry 0 0 0", "pour nope  99", "grow 99", "grow nope ",
                    "grow 99 put /a", "grow 99 cut", "grow 0 cut / 0; ", "grow 0 cut / 0;cut / 0",
                    "grow nope put /x 1;", "plan 0 ", "plan 00", "plan 0 0", "word left", "word left 99 ",
                    "word left -1", "word left Nope", "word Left 99", "word left nope nope", "drop nope ",
                    "drop nope 0"):
            self.assert_refused(row, NoText, 0)


class Refused(DeskCase):
    def test_no_stand(self):
        for stand in ("6", "7", "99", "9" * 60):
            self.assert_refused(f"doc {stand}", NoStand)
            self.assert_refused(f"grow {stand} put /x 1", NoStand)
            self.assert_refused(f"word new {stand}", NoStand)
            for kind in TWO_STANDS:
                for one, other in ((stand, "5"), ("5", stand), (stand, stand), ("0", stand), (stand, "0"),
                                   (stand, "left")):
                    self.assert_refused(f"{kind} {one} {other}", NoStand)

    def test_no_word(self):
        for word in ("nope", "a", "lef", "lefts", "abcdefgh", "text"):
            self.assert_refused(f"doc {word}", NoWord)
            self.assert_refused(f"grow {word} put /x 1", NoWord)
            self.assert_refused(f"word new {word}", NoWord)
            self.assert_refused(f"drop {word}", NoWord)
            for kind in TWO_STANDS:
                for one, other in ((word, "5"), ("5", word), (word, word), ("0", word), (word, "0"), (word, "left")):
                    self.assert_refused(f"{kind} {one} {other}", NoWord)

    def test_stands_from_the_left(self):
        for kind in TWO_STANDS:
            self.assert_refused(f"{kind} 99 nope", NoStand)
            self.assert_refused(f"{kind} nope 99", NoWord)

    def test_a_dropped_word_is_none(self):
        for row in ("doc left", "drop left", "way 0 left", "word new left", "grow left put /x 1"):
            desk = Desk(TEXT)
            desk.say("drop left")
            self.assert_refused(row, NoWord, desk=desk)

    def test_unfit(self):
        for row, at in (("cut / 0", 0), ("put /a 1", 0), ("put /x 1; put /x 1", 1),
                        ("put /x 1; cut /x 1; set /a 2 3", 2), ("set /a 1 1", 0), ("move /a /", 0),
                        ("move /a /a/b", 0), ("put /x/y 1; cut / 0", 0),
                        ("set /a 1 2; set /a 2 3; set /a 3 4; set /a 1 5; cut / 0", 3)):
            self.assert_refused(f"grow 0 {row}", Unfit, at)
            self.assert_refused(f"grow trunk {row}", Unfit, at)
            self.assert_refused(f"grow 99 {row}", NoStand)
            self.assert_refused(f"grow nope {row}", NoWord)

    def test_no_deed(self):
        for row in ("out 0 0", "out 5 0", "out left trunk", "out 1 2", "out 1 5", "out 3 1", "out left right",
                    "out 0 1", "carry 0 0", "carry 0 5", "carry trunk left"):
            self.assert_refused(row, NoDeed)
        for row, error in (("out 99 0", NoStand), ("out nope 0", NoWord), ("out 0 99", NoStand), ("out 0 nope", NoWord),
                           ("carry 0 99", NoStand), ("carry trunk nope", NoWord), ("carry 0 nope", NoWord)):
            self.assert_refused(row, error)

    def test_hangs(self):
        text = "/ 0, /a 1\n0 put /x 1; set /a 1 2\n1 put /y 3\n2 set / 0 5; cut /x 1\n3 set /a 2 4"
        for row, at, part in (("out 4 1", 3, ("x",)), ("out 3 1", 3, ("x",))):
            self.assert_refused(row, Hangs, at, part, desk=Desk(text))
        self.assert_says(Desk(text), "out 2 1", "5 put /x 1; set /a 1 2")
        self.assert_refused("out up down", Hangs, 3, ("x",), desk=Desk(text + "\n@down 1\n@up 4"))

    def test_clash(self):
        self.assert_refused("carry 4 1", Clash, 0, ("a",))
        self.assert_refused("carry 4 left", Clash, 0, ("a",))
        self.assert_refused("carry left 4", Clash, 4, ("b",))
        self.assert_refused("carry 1 1", Clash, 0, ("a",))
        self.assert_refused("carry right right", Clash, 0, ("a",))
        self.assert_refused("carry 2 5", Clash, 0, ("a", "x"))

    def test_no_room(self):
        for room in (0, 1, 2, 3):
            self.assert_refused(f"plan {room}", NoRoom)
        self.assert_refused("plan 0", NoRoom, desk=Desk("/ 0"))

    def test_twice(self):
        self.assert_refused("word left 0", Twice)
        self.assert_refused("word left 5", Twice)
        self.assert_refused("word right right", Twice)

    def test_the_word_ahead_of_the_stand(self):
        self.assert_refused("word left 99", Twice)
        self.assert_refused("word left nope", Twice)
        self.assert_refused("word left left", Twice)
        self.assert_refused("word new 99", NoStand)
        self.assert_refused("word new nope", NoWord)
        self.assert_refused("word new new", NoWord)

    def test_many_refusals_leave_all_as_it_was(self):
        desk = Desk(TEXT)
        for row in ("doc 99", "grow 0 cut / 0", "grow 99 put /x 1", "grow 0 put /x 1; put /x 1", "out 5 0", "out 3 1",
                    "carry 4 1", "carry 0 1", "pour 5 99", "pour nope 5", "plan 0", "word left 0", "word new 99",
                    "word new nope", "drop nope", "text ", "grow 0 ", "say", "out nope 1", "way 99 1"):
            self.assertNotIsInstance(outcome(desk.say, row), str, row)
            self.assertEqual(desk.say("text"), TEXT, row)
        self.assert_says(desk, "grow 5 put /x 1", "6")
        self.assert_says(desk, "word new 6", "ok")
        self.assert_says(desk, "text", "\n".join((STANDS, "5 put /x 1", *ROWS[6:7], "@new 6", *ROWS[7:])))


class Read(DeskCase):
    def test_refused_as_by_reading_a_bough(self):
        for text, at in (("", 0), ("/a 1", 0), ("text", 0), (TEXT + "\n", 9), ("/ 0\n0 cut / 0", 1), ("/ 0\n0 ", 1),
                         ("/ 0\n0 set / 0 1\n2 set / 1 2", 2), ("/ 0\n@a 0\n@a 0", 2), ("/ 0\n@b 0\n@a 0", 2),
                         ("/ 0\n@a 1", 1), ("/ 0\n@a 0\n0 set / 0 1", 2), ("/ 0\n\n", 1)):
            with self.assertRaises(BoughError) as caught:
                Desk(text)
            self.assertIs(type(caught.exception), NoText)
            self.assertEqual(caught.exception.at, at)

    def test_a_desk_of_the_told_text_answers_alike(self):
        rows = ("grow left put /y 1", "out 6 2", "carry right 6", "pour 6 3", "word new 7", "drop trunk", "pour 1 4",
                "plan 12", "way 1 new", "differ 4 left", "doc 8", "out left 1", "carry 4 0", "pour 7 4", "text")
        for many in range(len(rows)):
            desk = Desk(TEXT)
            for row in rows[:many]:
                desk.say(row)
            other = Desk(desk.say("text"))
            for row in rows[many:]:
                self.assert_says(other, row, desk.say(row))

    def test_two_desks_have_nothing_in_common(self):
        one, other = Desk(TEXT), Desk(TEXT)
        one.say("grow 0 put /x 1")
        one.say("word new 6")
        one.say("drop left")
        self.assertEqual(other.say("text"), TEXT)


class ByTheModules(DeskCase):
    def assert_alike(self, desk, bough, row):
        """Both come to the same: the answer, or the refusal, and the text afterwards."""
        if re.fullmatch(SAID, row):
            wanted = outcome(lambda said: answered(bough, said), row)
        else:
            wanted = (NoText, 0, None)
        self.assertEqual(outcome(desk.say, row), wanted, repr(row))
        self.assertEqual(desk.say("text"), show_bough(bough), repr(row))
        return wanted

    def test_one_sign_altered(self):
        said = 0
        for row in ("grow 1 put /x 1", "grow left set / 4 9; cut /c 3", "doc 3", "doc left", "way 2 right",
                    "differ left 4", "out 5 1", "carry 3 2", "carry right left", "pour 2 3", "pour left 4", "plan 10",
                    "word up 5", "word new left", "drop left", "text"):
            for other in altered(row):
                self.assert_alike(Desk(TEXT), read_bough(TEXT), other)
                said += re.fullmatch(SAID, other) is not None
        self.assertGreater(said, 200)

    def some_row(self, source, bough):
        """A row to be said; now and then it is refused."""
        words = bough.words() + ["nope"]
        stands = [source.choice((str(source.randrange(bough.many() + 1)), source.choice(words))) for _ in range(2)]
        kind = source.choice(("grow", "grow", "doc", "plan", "word", "word", "drop", "text") + TWO_STANDS)
        if kind == "grow":
            doc = bough.doc(source.randrange(bough.many()))
            return f"grow {stands[0]} {show_row(fitting_row(source, doc, source.randrange(1, 4)))}"
        if kind == "doc":
            return f"doc {stands[0]}"
        if kind == "plan":
            return f"plan {source.randrange(60)}"
        if kind == "word":
            return f"word {source.choice(('a', 'b', 'c', 'd', 'top', 'old', 'Up'))} {stands[0]}"
        if kind == "drop":
            return f"drop {source.choice(words)}"
        return kind if kind == "text" else f"{kind} {stands[0]} {stands[1]}"

    def test_some_rows(self):
        source = random.Random(57)
        seen = {}
        for _ in range(60):
            bough = some_bough(source, source.randrange(1, 12))
            desk = Desk(show_bough(bough))
            for _ in range(25):
                row = self.some_row(source, bough)
                wanted = self.assert_alike(desk, bough, row)
                seen[wanted[0] if isinstance(wanted, tuple) else row.split(" ")[0]] = True
        kinds = {"grow", "doc", "plan", "word", "drop", "text", *TWO_STANDS}
        self.assertEqual(set(seen), kinds | {Unfit, NoStand, NoWord, Twice, NoDeed, Hangs, Clash, NoRoom, NoText})


class OwnersAndBounds(DeskCase):
    def test_a_great_bough(self):
        # A document of 300 parts, 119 rows of up to 60 deeds, paths of 40 names, numbers of sixty figures.
        desk = Desk(show_doc(great_doc()))
        long = "/a" * 40
        for stand in range(1, 120):
            numbers = [40] + [GREAT - stand * 60 - turn for turn in range(59)] + [40]
            deeds = "; ".join(f"set {long} {old} {new}" for old, new in zip(numbers, numbers[1:]))
            parent = 0 if stand % 3 == 1 else stand - 1
            self.assert_says(desk, f"grow {parent} {deeds}", str(stand))
        self.assertEqual(desk.say("way 3 6").count("; "), 359)
        self.assert_says(desk, "pour 1 4", "clash 1 4 " + long)
        self.assert_says(desk, "differ 119 5", "")
        self.assertEqual(desk.say("plan 300").split(" ")[0], "180")
        self.assert_refused("carry 2 6", Clash, 0, ("a",) * 40, desk=desk)
        text = desk.say("text")
        self.assert_says(Desk(text), "text", text)


if __name__ == "__main__":
    unittest.main()
