"""Promise [5], and [2] as far as it speaks of documents: what is a document, and what lies below a path."""

import unittest

from boughback.docs import below, is_doc

GREAT = 10 ** 60 - 1
DOC = {(): 0, ("b",): 2, ("a",): 1, ("ab",): 3, ("a", "c"): 4, ("ab", "a"): 5, ("a", "b"): 6, ("a", "b", "d"): 7}


class IsDoc(unittest.TestCase):
    def test_no_parts(self):
        self.assertIs(is_doc({}), False)

    def test_root_alone(self):
        for number in (0, 1, -1, GREAT, -GREAT):
            self.assertIs(is_doc({(): number}), True)

    def test_no_root(self):
        self.assertIs(is_doc({("a",): 1}), False)
        self.assertIs(is_doc({("a",): 1, ("a", "b"): 1}), False)

    def test_ordinary(self):
        self.assertIs(is_doc(DOC), True)
        self.assertIs(is_doc({("a", "b"): 1, ("a",): 1, (): 1}), True)

    def test_place_missing_at_any_depth(self):
        for depth in range(2, 41):
            whole = {("a",) * names: names for names in range(depth + 1)}
            self.assertIs(is_doc(whole), True)
            for gone in range(depth):
                parts = {path: whole[path] for path in whole if len(path) != gone}
                self.assertIs(is_doc(parts), False, (depth, gone))

    def test_only_a_name_that_begins_alike_is_there(self):
        self.assertIs(is_doc({(): 0, ("a",): 1, ("ab", "c"): 2}), False)
        self.assertIs(is_doc({(): 0, ("ab",): 1, ("a", "c"): 2}), False)

    def test_each_part_of_a_document_that_has_others_below_is_needed(self):
        for gone in DOC:
            parts = {path: DOC[path] for path in DOC if path != gone}
            self.assertIs(is_doc(parts), gone not in ((), ("a",), ("ab",), ("a", "b")), gone)

    def test_true_and_false_are_no_numbers(self):
        for number in (True, False):
            self.assertIs(is_doc({(): number}), False)
            self.assertIs(is_doc({(): 0, ("a",): number}), False)

    def test_other_things_than_paths_and_numbers(self):
        self.assertIs(is_doc({(): "1"}), False)
        self.assertIs(is_doc({(): None}), False)
        self.assertIs(is_doc({(): 0, ("A",): 1}), False)
        self.assertIs(is_doc({(): 0, ("abcdefghi",): 1}), False)

    def test_the_parts_stay_as_they_are(self):
        for parts in (dict(DOC), {("a", "b"): 1}, {}):
            kept = list(parts.items())
            is_doc(parts)
            self.assertEqual(list(parts.items()), kept)

    def test_three_hundred_parts(self):
        parts = {(): 0}
        for first in "abcdefghijklm":
            parts[(first,)] = 1
            for second in "abcdefghijklmnopqrstuv":
                parts[(first, second)] = 2
        self.assertEqual(len(parts), 300)
        self.assertIs(is_doc(parts), True)
        self.assertIs(is_doc({**parts, ("z", "a"): 1}), False)


class Below(unittest.TestCase):
    def test_sorted_and_without_the_path_itself(self):
        self.assertEqual(below(DOC, ("a",)), [("a", "b"), ("a", "b", "d"), ("a", "c")])

    def test_of_the_root(self):
        self.assertEqual(below(DOC, ()), sorted(path for path in DOC if path != ()))
        self.assertEqual(below({(): 1}, ()), [])

    def test_names_of_which_one_begins_another(self):
        self.assertEqual(below(DOC, ("ab",)), [("ab", "a")])
        doc = {(): 0, ("a",): 0, ("ab",): 0, ("a", "ab"): 0, ("a", "a"): 0, ("a", "a", "z"): 0, ("ab", "a"): 0}
        self.assertEqual(below(doc, ("a",)), [("a", "a"), ("a", "a", "z"), ("a", "ab")])
        self.assertEqual(below(doc, ("a", "a")), [("a", "a", "z")])

    def test_where_nothing_lies_below(self):
        for path in (("b",), ("a", "c"), ("a", "b", "d"), ("ab", "a")):
            self.assertEqual(below(DOC, path), [])

    def test_of_a_path_that_is_not_there(self):
        for path in (("c",), ("abc",), ("b", "a"), ("a", "b", "e"), ("a", "b", "d", "e")):
            self.assertEqual(below(DOC, path), [])

    def test_the_document_stays_as_it_is(self):
        doc = dict(DOC)
        below(doc, ("a",))
        self.assertEqual(list(doc.items()), list(DOC.items()))

    def test_the_answer_belongs_to_its_asker(self):
        doc = dict(DOC)
        first = below(doc, ("a",))
        first.append("more")
        first.pop(0)
        self.assertEqual(below(doc, ("a",)), [("a", "b"), ("a", "b", "d"), ("a", "c")])
        self.assertEqual(doc, DOC)

    def test_later_changes_reach_no_answer(self):
        doc = dict(DOC)
        answer = below(doc, ("a",))
        doc.clear()
        self.assertEqual(answer, [("a", "b"), ("a", "b", "d"), ("a", "c")])


if __name__ == "__main__":
    unittest.main()
