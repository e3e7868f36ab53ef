"""Promises [1], [2] and [3] over the whole program, from a text by rows said to answers, and the interface's names."""

import importlib
import inspect
import itertools
import random
import unittest

from boughback.boughs import Bough
from boughback.boughtexts import read_bough, show_bough
from boughback.deeds import deed_of
from boughback.deedtexts import read_row, show_deed, show_row
from boughback.desk import Desk
from boughback.differ import differ
from boughback.errors import BoughError, Clash, Hangs
from boughback.grids import grid
from boughback.kept import Kept
from boughback.moving import behind, clash
from boughback.parttexts import read_doc, show_doc, show_path
from boughback.plans import plan, tree_of
from boughback.pouring import carry, pour, take_out
from boughback.rows import row_done, row_fits, row_told
from boughback.spans import spans
from boughback.taking import put_in, taken_out
from boughback.ways import way_row
from samples import all_deeds, fitting_row, small_docs, some_bough, some_doc, told_bough

# Each class with what it is made of, the class under which it stands, its methods and their arguments.
CLASSES = {
    "errors.BoughError": (None, "ValueError", {}),
    "errors.Unfit": ("at", "BoughError", {}),
    "errors.NoText": ("at", "BoughError", {}),
    "errors.Clash": ("at part", "BoughError", {}),
    "errors.Hangs": ("at part", "BoughError", {}),
    "errors.NoStand": (None, "BoughError", {}),
    "errors.NoDeed": (None, "BoughError", {}),
    "errors.Empty": (None, "BoughError", {}),
    "errors.NoWord": (None, "BoughError", {}),
    "errors.Twice": (None, "BoughError", {}),
    "errors.NoRoom": (None, "BoughError", {}),
    "deeds.Deed": (None, "object", {}),
    "deeds.Put": ("path number", "Deed", {"fits": "doc", "done": "doc", "back": "", "told": ""}),
    "deeds.Cut": ("path number", "Deed", {"fits": "doc", "done": "doc", "back": "", "told": ""}),
    "deeds.Set": ("path old new", "Deed", {"fits": "doc", "done": "doc", "back": "", "told": ""}),
    "deeds.Move": ("path goal", "Deed", {"fits": "doc", "done": "doc", "back": "", "told": ""}),
    "boughs.Bough": ("doc", "object", {"many": "", "grow": "stand row", "doc": "stand", "parent": "stand",
                                       "row": "stand", "line": "stand", "call": "word stand", "drop": "word",
                                       "called": "word", "words": ""}),
    "kept.Kept": ("bough room", "object", {"far": "", "whole": "", "near": "stand", "doc": "stand"}),
    "desk.Desk": ("text", "object", {"say": "row"}),
}
FUNCTIONS = {
    "paths": {"is_name": "text", "at_or_below": "path other", "carried": "path old new"},
    "docs": {"is_doc": "parts", "below": "doc path"},
    "deeds": {"deed_of": "told"},
    "rows": {"row_fits": "doc row", "row_done": "doc row", "row_back": "row", "trimmed": "row", "row_told": "row"},
    "differ": {"differ": "one other"},
    "ways": {"meet": "bough one other", "way_between": "bough one other", "way_row": "bough one other"},
    "moving": {"behind": "deed other", "clash": "deed other", "moved": "deed other", "along": "deed row"},
    "grids": {"grid": "ones others"},
    "taking": {"taken_out": "row at", "put_in": "row at deed", "parted": "row at"},
    "spans": {"spans": "parents lengths"},
    "shares": {"shares": "parents lengths sizes far", "cover": "parents lengths sizes far"},
    "plans": {"plan": "parents lengths sizes room", "tree_of": "bough"},
    "pouring": {"take_out": "bough stand gone", "carry": "bough gone stand", "pour": "bough one other"},
    "parttexts": {"show_number": "number", "show_path": "path", "show_doc": "doc", "read_number": "text",
                  "read_path": "text", "read_doc": "text"},
    "deedtexts": {"show_deed": "deed", "show_row": "row", "read_deed": "text", "read_row": "text"},
    "boughtexts": {"show_bough": "bough", "read_bough": "text"},
}


def arguments(function):
    """The names of its arguments, parted by blanks."""
    return " ".join(inspect.signature(function).parameters)


class Interface(unittest.TestCase):
    def test_functions(self):
        for name, functions in FUNCTIONS.items():
            module = importlib.import_module("boughback." + name)
            for function, names in functions.items():
                found = getattr(module, function)
                self.assertEqual((found.__module__, arguments(found)), ("boughback." + name, names), function)

    def test_classes(self):
        for name, (made_of, base, methods) in CLASSES.items():
            module, kind = name.split(".")
            found = getattr(importlib.import_module("boughback." + module), kind)
            self.assertEqual((found.__module__, found.__bases__[0].__name__), ("boughback." + module, base), name)
            if made_of is not None:
                self.assertEqual(arguments(found), made_of, name)
            for method, names in methods.items():
                self.assertEqual(arguments(getattr(found, method)), ("self " + names).strip(), (name, method))


class WholeCase(unittest.TestCase):
    def some_text(self, source, most):
        return show_bough(some_bough(source, source.randrange(2, most)))

    def doc(self, desk, stand):
        return read_doc(desk.say(f"doc {stand}"))

    def refusal(self, ask):
        """What the call refuses with: its class and its values; None where it answers."""
        try:
            ask()
        except BoughError as refused:
            return type(refused), getattr(refused, "at", None), getattr(refused, "part", None)
        return None


class ByTheModules(WholeCase):
    def test_ways_and_differences(self):
        source = random.Random(58)
        for _ in range(15):
            text = self.some_text(source, 10)
            desk, bough = Desk(text), read_bough(text)
            for one, other in itertools.product(range(bough.many()), repeat=2):
                self.assertEqual(desk.say(f"way {one} {other}"), show_row(way_row(bough, one, other)))
                self.assertEqual(desk.say(f"differ {one} {other}"), show_row(differ(bough.doc(one), bough.doc(other))))
            self.assertEqual(desk.say("text"), text)

    def test_plans(self):
        source = random.Random(59)
        for _ in range(15):
            text = self.some_text(source, 10)
            desk, bough = Desk(text), read_bough(text)
            for room in range(min(tree_of(bough)[2]), sum(tree_of(bough)[2]) + 2):
                far, stands, shares = plan(*tree_of(bough), room)
                self.assertEqual(desk.say(f"plan {room}"), " ".join(str(number) for number in [far] + stands))

    def test_taken_out_carried_and_poured(self):
        source = random.Random(60)
        for _ in range(25):
            text = self.some_text(source, 8)
            many = read_bough(text).many()
            for one, other in itertools.product(range(many), repeat=2):
                for word, call in (("out", take_out), ("carry", carry), ("pour", pour)):
                    desk, bough = Desk(text), read_bough(text)
                    wanted = self.refusal(lambda: call(bough, one, other))
                    self.assertEqual(self.refusal(lambda: desk.say(f"{word} {one} {other}")), wanted)
                    self.assertEqual(desk.say("text"), show_bough(bough))
                    if wanted is not None:
                        self.assertEqual(desk.say("text"), text)


class ThePromise(WholeCase):
    def test_each_stand_is_come_to_from_each_other_one(self):
        source = random.Random(61)
        for _ in range(15):
            text = self.some_text(source, 12)
            desk = Desk(text)
            stands = range(read_bough(text).many())
            for one, other in itertools.product(stands, repeat=2):
                for word in ("way", "differ"):
                    row = read_row(desk.say(f"{word} {one} {other}"))
                    self.assertEqual(row_done(self.doc(desk, one), row), self.doc(desk, other))

    def test_peace_and_clashes_of_two_deeds(self):
        # Over all pairs of deeds on small documents: poured together by the desk, and by the meaning of peace.
        met = 0
        for doc in small_docs(("a", "b"), 3, 2):
            deeds = all_deeds(doc, ("a", "b"), (0, 1))
            for deed, other in itertools.product(deeds, repeat=2):
                desk = Desk(f"{show_doc(doc)}\n0 {show_deed(deed)}\n0 {show_deed(other)}")
                one_way, other_way = [other, behind(deed, other)], [deed, behind(other, deed)]
                peace = row_fits(doc, one_way) and row_fits(doc, other_way)
                if peace and row_done(doc, one_way) == row_done(doc, other_way):
                    self.assertEqual(desk.say("pour 1 2"), "met 3 4")
                    self.assertEqual(desk.say("doc 3"), desk.say("doc 4"))
                    self.assertEqual(self.doc(desk, 3), row_done(doc, one_way))
                    met += 1
                else:
                    part = show_path(clash(deed, other))
                    self.assertEqual(desk.say("pour 1 2"), f"clash 1 2 {part}")
                    self.assertEqual(desk.say("pour 2 1"), f"clash 2 1 {part}")
        self.assertGreater(met, 500)

    def test_taken_out_and_put_in_again(self):
        # On a line with one deed on each stand.
        source = random.Random(62)
        taken = hung = 0
        for _ in range(80):
            doc = some_doc(source, 8)
            row = fitting_row(source, doc, 6)
            text = "\n".join([show_doc(doc)] + [f"{at} {show_deed(deed)}" for at, deed in enumerate(row)])
            for at in range(6):
                desk = Desk(text)
                refused = self.refusal(lambda: taken_out(row, at))
                if refused is not None:
                    self.assertEqual(refused[0], Hangs)
                    wanted = (Hangs, refused[1] + 1, refused[2])
                    self.assertEqual(self.refusal(lambda: desk.say(f"out 6 {at + 1}")), wanted)
                    hung += 1
                    continue
                left, deed = taken_out(row, at)
                last = 11 - at if at < 5 else 5
                self.assertEqual(desk.say(f"out 6 {at + 1}"), f"{last} {show_deed(deed)}")
                self.assertEqual(desk.say(f"way 0 {last}"), show_row(left))
                # What it is grown by leads on to what the old line made, and put in again the row is the very row.
                new = desk.say(f"grow {last} {show_deed(deed)}")
                self.assertEqual(desk.say(f"doc {new}"), desk.say("doc 6"))
                again = put_in(read_row(desk.say(f"way 0 {last}")), at, deed)
                self.assertEqual(show_row(again), desk.say("way 0 6"))
                taken += 1
        self.assertGreater(min(taken, hung), 50)

    def test_poured_together_from_either_side(self):
        source = random.Random(63)
        met = clashed = 0
        for _ in range(150):
            text = self.some_text(source, 9)
            for one, other in itertools.combinations(range(read_bough(text).many()), 2):
                left, right = Desk(text), Desk(text)
                told, turned = (left.say(f"pour {one} {other}").split(" "), right.say(f"pour {other} {one}").split(" "))
                self.assertEqual(told[0], turned[0])
                if told[0] == "clash":
                    cells = list(zip(told[1::3], told[2::3], told[3::3]))
                    back = [(b, a, part) for a, b, part in zip(turned[1::3], turned[2::3], turned[3::3])]
                    self.assertEqual(sorted(cells), sorted(back))
                    self.assertEqual((left.say("text"), right.say("text")), (text, text))
                    clashed += 1
                else:
                    docs = [left.say(f"doc {stand}") for stand in told[1:]]
                    docs += [right.say(f"doc {stand}") for stand in turned[1:]]
                    self.assertEqual(len(set(docs)), 1)
                    met += left.say("text") != text
        self.assertGreater(min(met, clashed), 100)

    def test_carried_and_carried_back(self):
        # Where a stand is carried onto another one, it is carried from there back to its parent as the very row.
        source = random.Random(64)
        carried = 0
        for _ in range(40):
            text = self.some_text(source, 8)
            many = read_bough(text).many()
            for gone, stand in itertools.product(range(1, many), range(many)):
                desk, bough = Desk(text), read_bough(text)
                refused = self.refusal(lambda: desk.say(f"carry {gone} {stand}"))
                if refused is not None:
                    self.assertEqual(refused[0], Clash)
                    continue
                self.assertEqual(desk.say(f"carry {many} {bough.parent(gone)}"), str(many + 1))
                row = read_row(desk.say(f"way {bough.parent(gone)} {many + 1}"))
                self.assertEqual(row_told(row), row_told(bough.row(gone)))
                carried += 1
        self.assertGreater(carried, 100)

    def test_whatever_room_is_given(self):
        source = random.Random(65)
        for _ in range(12):
            text = self.some_text(source, 8)
            desk, bough = Desk(text), read_bough(text)
            parents, lengths, sizes = tree_of(bough)
            table = spans(parents, lengths)
            for room in range(min(sizes), sum(sizes) + 1):
                far, *stands = [int(word) for word in desk.say(f"plan {room}").split(" ")]
                self.assertEqual(stands, sorted(set(stands)))
                self.assertLessEqual(sum(sizes[stand] for stand in stands), room)
                self.assertEqual(max(min(row[stand] for stand in stands) for row in table), far)
                choices = [chosen for many in range(1, len(sizes) + 1)
                           for chosen in itertools.combinations(range(len(sizes)), many)
                           if sum(sizes[stand] for stand in chosen) <= room]
                least = min(max(min(row[stand] for stand in chosen) for row in table) for chosen in choices)
                self.assertEqual(far, least)
                kept = Kept(bough, room)
                self.assertEqual((kept.far(), kept.whole()), (far, stands))
                self.assertEqual([kept.doc(stand) for stand in range(bough.many())],
                                 [self.doc(desk, stand) for stand in range(bough.many())])

    def test_rows_that_meet_by_the_grid(self):
        # The desk's pouring against the grid of the told ways from where both meet.
        source = random.Random(66)
        for _ in range(30):
            doc = some_doc(source, 8)
            ones, others = fitting_row(source, doc, 3), fitting_row(source, doc, 4)
            desk = Desk(f"{show_doc(doc)}\n0 {show_row(ones)}\n0 {show_row(others)}")
            answer = grid(read_row(desk.say("way 0 1")), read_row(desk.say("way 0 2")))
            told = desk.say("pour 1 2")
            if answer[0] == "met":
                self.assertEqual(told, "met 3 4")
                self.assertEqual(desk.say("way 1 3"), show_row(answer[2]))
                self.assertEqual(desk.say("way 2 4"), show_row(answer[1]))
            else:
                parts = sorted({part for i, j, part in answer[1]})
                self.assertEqual(told, "clash" + "".join(f" 1 2 {show_path(part)}" for part in parts))


class AStory(WholeCase):
    def test_from_a_text_to_answers(self):
        desk = Desk("/ 0\n@start 0")
        for row, answer in (
                ("grow start put /house 1; put /house/door 2", "1"),
                ("word house 1", "ok"),
                ("grow house set /house/door 2 3", "2"),
                ("grow 2 put /tree 4", "3"),
                ("grow 3 move /house /hut; set /hut/door 3 5", "4"),
                ("word top 4", "ok"),
                ("doc top", "/ 0, /hut 1, /hut/door 5, /tree 4"),
                # Back, and on elsewhere: another bough, and nothing is lost.
                ("way top house", "set /hut/door 5 3; move /hut /house; cut /tree 4; set /house/door 3 2"),
                ("grow house put /house/roof 6", "5"),
                ("word side 5", "ok"),
                ("differ top side", "cut /tree 4; cut /hut/door 5; cut /hut 1; put /house 1; put /house/door 2; "
                                    "put /house/roof 6"),
                # A stand in the midst is taken out of the line; the ones that hang on others stay.
                ("out top 3", "6 put /tree 4"),
                ("doc 6", "/ 0, /hut 1, /hut/door 5"),
                # One is carried to another bough, with its paths carried on.
                ("carry side top", "7"),
                ("way top 7", "put /hut/roof 6"),
                # Both boughs are poured together.
                ("pour top side", "met 8 9"),
                ("doc 8", "/ 0, /hut 1, /hut/door 5, /hut/roof 6, /tree 4"),
                ("doc 9", "/ 0, /hut 1, /hut/door 5, /hut/roof 6, /tree 4"),
                ("way 8 9", "cut /hut/roof 6; set /hut/door 5 3; move /hut /house; cut /tree 4; set /house/door 3 2; "
                            "put /house/roof 6; set /house/door 2 3; put /tree 4; move /house /hut; set /hut/door 3 5"),
                ("grow side cut /house/door 2", "10"),
                ("pour 10 top", "clash 10 2 /house/door"),
                ("drop side", "ok"),
                ("plan 1000", "0 0 1 2 3 4 5 6 7 8 9 10")):
            self.assertEqual(desk.say(row), answer, row)
        text = ("/ 0\n0 put /house 1; put /house/door 2\n1 set /house/door 2 3\n2 put /tree 4\n"
                "3 move /house /hut; set /hut/door 3 5\n1 put /house/roof 6\n2 move /house /hut; set /hut/door 3 5\n"
                "4 put /hut/roof 6\n4 put /hut/roof 6\n"
                "5 set /house/door 2 3; put /tree 4; move /house /hut; set /hut/door 3 5\n5 cut /house/door 2\n"
                "@house 1\n@start 0\n@top 4")
        for row, refused in (("out top 2", (Hangs, 4, ("hut", "door"))),
                             ("carry 10 top", (Clash, 1, ("house", "door")))):
            self.assertEqual(self.refusal(lambda: desk.say(row)), refused)
            self.assertEqual(desk.say("text"), text)
        self.assertEqual(Desk(text).say("text"), text)


class Owners(WholeCase):
    def test_no_answer_reaches_into_another(self):
        source = random.Random(67)
        for _ in range(10):
            bough = some_bough(source, 8)
            text, told = show_bough(bough), told_bough(bough)
            kept = Kept(bough, 20)
            desk = Desk(text)
            for stand in range(8):
                bough.doc(stand).clear()
                bough.row(stand).clear()
                bough.line(stand).clear()
                kept.doc(stand).clear()
                kept.near(stand)[1].clear()
                way_row(bough, stand, 0).clear()
            bough.words().append("more")
            kept.whole().clear()
            for each in tree_of(bough):
                each.clear()
            self.assertEqual((told_bough(bough), show_bough(bough), desk.say("text")), (told, text, text))
            self.assertEqual([kept.doc(stand) for stand in range(8)], [bough.doc(stand) for stand in range(8)])

    def test_what_is_handed_in_stays_its_owners(self):
        doc, row = {(): 0}, [deed_of(("put", ("a",), 1))]
        bough = Bough(doc)
        bough.grow(0, row)
        text = show_bough(bough)
        doc[("b",)] = 2
        row.append(deed_of(("put", ("b",), 2)))
        self.assertEqual((show_bough(bough), text), ("/ 0\n0 put /a 1", "/ 0\n0 put /a 1"))


if __name__ == "__main__":
    unittest.main()
