"""Promises [6] and [7], and [2] as far as it speaks of deeds."""

import itertools
import unittest

from boughback.deeds import Cut, Deed, Move, Put, Set, deed_of
from boughback.docs import is_doc
from boughback.errors import Unfit

GREAT = 10 ** 60 - 1
KINDS = (Put, Cut, Set, Move)
DOC = {(): 1, ("a",): 2, ("ab",): 3, ("a", "b"): 4, ("a", "b", "c"): 5, ("d",): -6}


class DeedCase(unittest.TestCase):
    def assert_makes(self, deed, doc, wanted):
        kept = list(doc.items())
        self.assertIs(deed.fits(doc), True, (deed.told(), doc))
        made = deed.done(doc)
        self.assertEqual(made, wanted, (deed.told(), doc))
        self.assertIsNot(made, doc)
        self.assertEqual(list(doc.items()), kept)

    def assert_unfit(self, deed, doc):
        kept = list(doc.items())
        self.assertIs(deed.fits(doc), False, (deed.told(), doc))
        with self.assertRaises(Unfit) as caught:
            deed.done(doc)
        self.assertEqual(caught.exception.at, 0)
        self.assertIs(type(caught.exception.at), int)
        self.assertEqual(list(doc.items()), kept)


class PutDeeds(DeedCase):
    def test_right_below_each_depth(self):
        for place in DOC:
            path = place + ("x",)
            self.assert_makes(Put(path, 9), DOC, {**DOC, path: 9})

    def test_path_is_there(self):
        for path in DOC:
            self.assert_unfit(Put(path, 9), DOC)
            self.assert_unfit(Put(path, DOC[path]), DOC)

    def test_place_is_not_there(self):
        for path in (("x", "y"), ("a", "x", "y"), ("a", "b", "c", "x", "y"), ("abc", "x"), ("b", "c")):
            self.assert_unfit(Put(path, 9), DOC)

    def test_root(self):
        for number in (0, 1, 9):
            self.assert_unfit(Put((), number), DOC)
            self.assert_unfit(Put((), number), {(): 1})

    def test_below_the_root_alone(self):
        self.assert_makes(Put(("a",), 0), {(): 0}, {(): 0, ("a",): 0})

    def test_true_and_false(self):
        for number in (True, False):
            self.assert_unfit(Put(("x",), number), DOC)


class CutDeeds(DeedCase):
    def test_leaves(self):
        for path in (("a", "b", "c"), ("ab",), ("d",)):
            wanted = {each: DOC[each] for each in DOC if each != path}
            self.assert_makes(Cut(path, DOC[path]), DOC, wanted)

    def test_another_number(self):
        for path in (("a", "b", "c"), ("ab",), ("d",)):
            for number in (DOC[path] - 1, DOC[path] + 1, -DOC[path], 0):
                self.assert_unfit(Cut(path, number), DOC)

    def test_path_is_not_there(self):
        for path in (("x",), ("a", "x"), ("abc",), ("b",), ("a", "b", "c", "d"), ("x", "y")):
            self.assert_unfit(Cut(path, 5), DOC)

    def test_something_lies_below(self):
        self.assert_unfit(Cut(("a",), 2), DOC)
        self.assert_unfit(Cut(("a", "b"), 4), DOC)

    def test_a_name_that_begins_alike_is_not_below(self):
        self.assert_makes(Cut(("a",), 1), {(): 0, ("a",): 1, ("ab",): 2, ("ab", "c"): 3},
                          {(): 0, ("ab",): 2, ("ab", "c"): 3})

    def test_root(self):
        self.assert_unfit(Cut((), 1), DOC)
        self.assert_unfit(Cut((), 1), {(): 1})

    def test_true_and_false(self):
        self.assert_unfit(Cut(("a",), True), {(): 0, ("a",): 1})
        self.assert_unfit(Cut(("a",), False), {(): 0, ("a",): 0})


class SetDeeds(DeedCase):
    def test_each_path(self):
        for path in DOC:
            for new in (DOC[path] + 1, DOC[path] - 1, -DOC[path], 0):
                self.assert_makes(Set(path, DOC[path], new), DOC, {**DOC, path: new})

    def test_root_alone(self):
        self.assert_makes(Set((), 1, 0), {(): 1}, {(): 0})

    def test_another_old_number(self):
        for path in DOC:
            for old in (DOC[path] + 1, DOC[path] - 1, -DOC[path]):
                self.assert_unfit(Set(path, old, 99), DOC)
                self.assert_unfit(Set(path, old, DOC[path]), DOC)

    def test_new_number_is_the_old_one(self):
        for path in DOC:
            self.assert_unfit(Set(path, DOC[path], DOC[path]), DOC)

    def test_path_is_not_there(self):
        for path in (("x",), ("a", "x"), ("abc",), ("a", "b", "c", "d")):
            self.assert_unfit(Set(path, 0, 1), DOC)

    def test_true_and_false(self):
        doc = {(): 1, ("a",): 0}
        self.assert_unfit(Set((), True, 5), doc)
        self.assert_unfit(Set((), 1, False), doc)
        self.assert_unfit(Set(("a",), False, 5), doc)
        self.assert_unfit(Set(("a",), 0, True), doc)


class MoveDeeds(DeedCase):
    def test_leaf(self):
        self.assert_makes(Move(("d",), ("x",)), {(): 1, ("d",): 2}, {(): 1, ("x",): 2})
        self.assert_makes(Move(("d",), ("a", "d")), {(): 1, ("a",): 3, ("d",): 2}, {(): 1, ("a",): 3, ("a", "d"): 2})

    def test_all_below_goes_along(self):
        self.assert_makes(Move(("a",), ("d", "x")), DOC,
                          {(): 1, ("d", "x"): 2, ("ab",): 3, ("d", "x", "b"): 4, ("d", "x", "b", "c"): 5, ("d",): -6})

    def test_up(self):
        self.assert_makes(Move(("a", "b"), ("b",)), DOC,
                          {(): 1, ("a",): 2, ("ab",): 3, ("b",): 4, ("b", "c"): 5, ("d",): -6})

    def test_a_name_that_begins_alike_stays(self):
        doc = {(): 0, ("a",): 1, ("ab",): 2, ("ab", "c"): 3}
        self.assert_makes(Move(("a",), ("z",)), doc, {(): 0, ("z",): 1, ("ab",): 2, ("ab", "c"): 3})
        self.assert_makes(Move(("a",), ("ab", "a")), doc, {(): 0, ("ab", "a"): 1, ("ab",): 2, ("ab", "c"): 3})

    def test_beside_itself(self):
        self.assert_makes(Move(("a", "b"), ("a", "x")), {(): 0, ("a",): 1, ("a", "b"): 2},
                          {(): 0, ("a",): 1, ("a", "x"): 2})

    def test_path_is_not_there(self):
        for path in (("x",), ("a", "x"), ("abc",), ("b",)):
            self.assert_unfit(Move(path, ("y",)), DOC)

    def test_goal_is_there(self):
        for goal in DOC:
            self.assert_unfit(Move(("d",), goal), DOC)

    def test_place_of_the_goal_is_not_there(self):
        for goal in (("x", "y"), ("a", "x", "y"), ("abc", "d")):
            self.assert_unfit(Move(("d",), goal), DOC)

    def test_goal_at_or_below_the_path(self):
        self.assert_unfit(Move(("a",), ("a",)), DOC)
        self.assert_unfit(Move(("a",), ("a", "x")), DOC)
        self.assert_unfit(Move(("a",), ("a", "b", "x")), DOC)
        self.assert_unfit(Move(("a",), ("a", "b", "c", "x")), DOC)
        self.assert_unfit(Move(("a", "b"), ("a", "b", "x")), DOC)

    def test_root(self):
        for goal in ((), ("x",), ("a",), ("a", "x"), ("x", "y")):
            self.assert_unfit(Move((), goal), DOC)
            self.assert_unfit(Move((), goal), {(): 1})
        for path in DOC:
            self.assert_unfit(Move(path, ()), DOC)


def closed_docs():
    """All documents over a few paths, with names of which one begins another; numbers 0 and 1."""
    paths = [("a",), ("ab",), ("b",), ("a", "a"), ("b", "ab"), ("a", "a", "b")]
    for picks in itertools.product((False, True), repeat=len(paths)):
        chosen = [()] + [path for path, pick in zip(paths, picks) if pick]
        if all(path[:-1] in chosen for path in chosen):
            for turn in range(3):
                yield {path: ((place * 3 + 1) >> turn) % 2 for place, path in enumerate(chosen)}


def some_deeds():
    """All deeds over the same paths, and some further ones."""
    paths = [(), ("a",), ("ab",), ("b",), ("a", "a"), ("a", "ab"), ("b", "ab"), ("b", "c"), ("a", "a", "b"), ("c", "c")]
    for path in paths:
        for number in (0, 1, -1):
            yield ("put", path, number)
            yield ("cut", path, number)
            for new in (0, 1, -1):
                yield ("set", path, number, new)
        for goal in paths:
            yield ("move", path, goal)


def as_text(path):
    return "/" + "".join(name + "/" for name in path)


def fits_by_text(told, doc):
    """Where a deed fits, told once more over texts of paths."""
    parts = {as_text(path): doc[path] for path in doc}
    path = as_text(told[1])
    lies_below = [each for each in parts if each.startswith(path) and each != path]
    if told[0] == "put":
        return path != "/" and path not in parts and as_text(told[1][:-1]) in parts
    if told[0] == "cut":
        return path != "/" and parts.get(path) == told[2] and not lies_below
    if told[0] == "set":
        return parts.get(path) == told[2] and told[2] != told[3]
    goal, place = as_text(told[2]), as_text(told[2][:-1])
    return ("/" not in (path, goal) and path in parts and goal not in parts and place in parts
            and not place.startswith(path))


def made_by_text(told, doc):
    """What a deed makes, told once more over texts of paths."""
    parts = {as_text(path): doc[path] for path in doc}
    path = as_text(told[1])
    if told[0] in ("put", "set"):
        parts[path] = told[-1]
    elif told[0] == "cut":
        del parts[path]
    else:
        goal = as_text(told[2])
        parts = {goal + each[len(path):] if each.startswith(path) else each: parts[each] for each in parts}
    return {tuple(each.split("/")[1:-1]): parts[each] for each in parts}


class AllSmallOnes(DeedCase):
    def test_each_deed_in_each_document(self):
        fit = {"put": 0, "cut": 0, "set": 0, "move": 0}
        for doc in closed_docs():
            self.assertTrue(is_doc(doc))
            for told in some_deeds():
                deed = deed_of(told)
                if not fits_by_text(told, doc):
                    self.assert_unfit(deed, doc)
                    continue
                fit[told[0]] += 1
                made = made_by_text(told, doc)
                self.assert_makes(deed, doc, made)
                self.assertTrue(is_doc(made))
                self.assert_makes(deed.back(), made, doc)
                self.assertEqual(deed.back().back().told(), told)
        for kind in fit:
            self.assertGreater(fit[kind], 50, kind)


class BacksAndTold(unittest.TestCase):
    def test_backs(self):
        cases = ((Put(("a",), 5), Cut, ("cut", ("a",), 5)),
                 (Cut(("a", "b"), -5), Put, ("put", ("a", "b"), -5)),
                 (Set((), 1, 2), Set, ("set", (), 2, 1)),
                 (Move(("a",), ("b", "c")), Move, ("move", ("b", "c"), ("a",))))
        for deed, kind, told in cases:
            before = deed.told()
            back = deed.back()
            self.assertIs(type(back), kind)
            self.assertEqual(back.told(), told)
            self.assertIs(type(back.back()), type(deed))
            self.assertEqual(back.back().told(), before)
            self.assertEqual(deed.told(), before)

    def test_back_of_a_deed_that_fits_nothing(self):
        for told, back in ((("put", (), 1), ("cut", (), 1)), (("set", ("a",), 1, 1), ("set", ("a",), 1, 1)),
                           (("move", (), ("a",)), ("move", ("a",), ()))):
            self.assertEqual(deed_of(told).back().told(), back)

    def test_back_leads_back(self):
        for deed in (Put(("d", "e"), 0), Cut(("a", "b", "c"), 5), Set((), 1, 7), Move(("a",), ("d", "a"))):
            made = deed.done(DOC)
            self.assertNotEqual(made, DOC)
            self.assertIs(deed.back().fits(made), True)
            self.assertEqual(deed.back().done(made), DOC)

    def test_told(self):
        cases = ((Put(("a", "b"), 3), ("put", ("a", "b"), 3)), (Cut(("a",), -3), ("cut", ("a",), -3)),
                 (Set((), 3, 4), ("set", (), 3, 4)), (Move(("a",), ("b",)), ("move", ("a",), ("b",))))
        for deed, told in cases:
            self.assertEqual(deed.told(), told)
            self.assertIs(type(deed.told()), tuple)

    def test_deed_of(self):
        cases = ((("put", ("a", "b"), 3), Put), (("cut", ("a",), -3), Cut), (("set", (), 3, 4), Set),
                 (("move", ("a",), ("b",)), Move))
        for told, kind in cases:
            deed = deed_of(told)
            self.assertIs(type(deed), kind)
            self.assertEqual(deed.told(), told)

    def test_deed_of_what_tells_none(self):
        with self.assertRaises(KeyError):
            deed_of(("turn", ("a",), ("b",)))

    def test_told_alike_just_where_all_is_alike(self):
        tolds = [deed_of(told).told() for told in some_deeds()]
        self.assertEqual(tolds, list(some_deeds()))
        self.assertEqual(len(set(tolds)), len(tolds))

    def test_kinds_stand_under_deed_alone(self):
        for kind in KINDS:
            self.assertTrue(issubclass(kind, Deed))
            for other in KINDS:
                self.assertIs(issubclass(kind, other), kind is other)


class OwnersAndBounds(DeedCase):
    def test_numbers_of_sixty_figures(self):
        for number in (GREAT, -GREAT):
            # A number that is made anew is another object, so only a comparison by value finds it.
            again, near = int(str(number)), number + (1 if number < 0 else -1)
            doc = {(): number, ("a",): number}
            self.assert_makes(Put(("b",), number), doc, {**doc, ("b",): again})
            self.assert_makes(Cut(("a",), again), doc, {(): number})
            self.assert_unfit(Cut(("a",), near), doc)
            self.assert_makes(Set((), again, -number), doc, {(): -number, ("a",): number})
            self.assert_makes(Set((), again, near), doc, {(): near, ("a",): number})
            self.assert_unfit(Set((), near, 0), doc)
            self.assert_unfit(Set((), number, again), doc)
            self.assert_makes(Move(("a",), ("b",)), doc, {(): again, ("b",): again})
            self.assertEqual(deed_of(("set", (), number, -number)).back().told(), ("set", (), -number, again))

    def test_a_changed_answer_changes_no_later_one(self):
        for deed in (Put(("x",), 9), Cut(("d",), -6), Set(("a",), 2, 9), Move(("a", "b"), ("b",))):
            doc = dict(DOC)
            first = deed.done(doc)
            kept = dict(first)
            first.clear()
            self.assertEqual(doc, DOC)
            second = deed.done(doc)
            self.assertEqual(second, kept)
            second[()] = 77
            self.assertEqual(deed.done(doc), kept)

    def test_a_document_that_is_changed_later_changes_no_answer(self):
        for deed in (Put(("x",), 9), Cut(("d",), -6), Set(("a",), 2, 9), Move(("a", "b"), ("b",))):
            doc = dict(DOC)
            made = deed.done(doc)
            kept = dict(made)
            doc[()] = 77
            doc.pop(("ab",))
            self.assertEqual(made, kept)

    def test_a_document_is_taken_as_it_is_just_then(self):
        doc = {(): 0}
        deed = Put(("a",), 1)
        self.assertIs(deed.fits(doc), True)
        doc[("a",)] = 5
        self.assertIs(deed.fits(doc), False)
        self.assert_unfit(deed, doc)

    def test_three_hundred_parts_and_forty_names(self):
        doc = {("a",) * names: names for names in range(40)}
        for first in "bcdefghijklm":
            for second in "abcdefghijklmnopqrstu":
                doc[(first + second,)] = 1
        doc.update({("n" + second,): 1 for second in "abcdefg"})
        self.assertEqual(len(doc), 299)
        deep = ("a",) * 40
        self.assert_makes(Put(deep, 3), doc, {**doc, deep: 3})
        full = Put(deep, 3).done(doc)
        self.assertEqual(Move(("a",), ("z",)).back().done(Move(("a",), ("z",)).done(full)), full)
        self.assertEqual(Cut(deep, 3).done(full), doc)
        self.assert_unfit(Cut(deep[:-1], 39), full)


if __name__ == "__main__":
    unittest.main()
