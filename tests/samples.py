"""Documents, rows, boughs, trees and texts for the tests; what is drawn is from a seeded source, the same each run."""

import re

from boughback.boughs import Bough
from boughback.deeds import Cut, Move, Put, Set
from boughback.docs import below

# Of some of these names one begins another.
NAMES = ("a", "ab", "abc", "b", "ba")
NUMBERS = (-1, 0, 1, 2)
DEEPEST = 5

# The texts of numbers, paths, deeds and rows, by the words of the document.
NUMBER = r"(?:0|-?[1-9][0-9]{0,59})"
PATH = r"(?:/|(?:/[a-z]{1,8}){1,40})"
DEED = rf"(?:(?:put|cut) {PATH} {NUMBER}|set {PATH} {NUMBER} {NUMBER}|move {PATH} {PATH})"
ROW = rf"(?:{DEED}(?:; {DEED})*)?"
DOC = rf"{PATH} {NUMBER}(?:, {PATH} {NUMBER})*"
# Some of these are figures or letters elsewhere than in the document.
SIGNS = " \t\n\r/-+;,@_.019azA\u00b2\u0663\uff11\u00e4"


def free_paths(doc):
    """The paths that are not there, right below those that are."""
    return [place + (name,) for place in doc for name in NAMES if len(place) < DEEPEST and place + (name,) not in doc]


def fitting_deed(source, doc):
    """A deed of any of the four kinds that fits the document."""
    while True:
        kind = source.choice((Put, Cut, Set, Move))
        path = source.choice(sorted(doc))
        if kind is Put:
            return Put(source.choice(free_paths(doc)), source.choice(NUMBERS))
        if kind is Set:
            return Set(path, doc[path], source.choice([number for number in NUMBERS if number != doc[path]]))
        if kind is Cut and path != () and not below(doc, path):
            return Cut(path, doc[path])
        if kind is Move:
            deed = Move(path, source.choice(free_paths(doc)))
            if deed.fits(doc):
                return deed


def fitting_row(source, doc, many):
    """A row of so many deeds that fits the document."""
    row = []
    for _ in range(many):
        row.append(fitting_deed(source, doc))
        doc = row[-1].done(doc)
    return row


def some_doc(source, parts):
    """A document of so many parts."""
    doc = {(): source.choice(NUMBERS)}
    while len(doc) < parts:
        doc[source.choice(free_paths(doc))] = source.choice(NUMBERS)
    return doc


def small_docs(names, most, deepest):
    """All documents of these names with so many parts at most, none deeper than told; each part bears 0."""
    found = [((),)]
    for paths in found:
        for path in [place + (name,) for place in paths for name in names if len(place) < deepest]:
            more = tuple(sorted({*paths, path}))
            if len(more) <= most and more not in found:
                found.append(more)
    return [{path: 0 for path in paths} for paths in found]


def all_deeds(doc, names, numbers):
    """All deeds over these names and numbers that fit the document."""
    free = [place + (name,) for place in doc for name in names if place + (name,) not in doc]
    deeds = [Put(path, number) for path in free for number in numbers]
    deeds += [Cut(path, doc[path]) for path in doc]
    deeds += [Set(path, doc[path], number) for path in doc for number in numbers]
    deeds += [Move(path, goal) for path in doc for goal in free]
    return [deed for deed in deeds if deed.fits(doc)]


def great_doc():
    """A document of 300 parts, one of which has a path of 40 names."""
    doc = {("a",) * names: names for names in range(41)}
    for first in "bcdefghijklmn":
        for second in "abcdefghijklmnopqrstuvwxyz":
            if len(doc) < 300:
                doc[(first + second,)] = 1
    return doc


def some_bough(source, stands):
    """A bough of so many stands, some far from the root stand, some near it, with rows of one to three deeds."""
    bough = Bough(some_doc(source, 6))
    for number in range(1, stands):
        parent = source.choice((number - 1, number - 1, source.randrange(number)))
        bough.grow(parent, fitting_row(source, bough.doc(parent), source.randrange(1, 4)))
    return bough


def told_bough(bough):
    """All that a bough has: of each stand its parent, its told row and its document; and the words."""
    stands = [(bough.parent(stand), [deed.told() for deed in bough.row(stand)], bough.doc(stand))
              for stand in range(bough.many())]
    return stands, [(word, bough.called(word)) for word in bough.words()]


def some_tree(source, many, longest, greatest):
    """The parents, lengths and sizes of a tree of so many stands: now a line, now a star, now between these."""
    back = source.choice((1, 2, 4, many))
    parents = [None] + [source.randrange(max(0, number - back), number) for number in range(1, many)]
    lengths = [0] + [source.randrange(1, longest + 1) for _ in range(1, many)]
    return parents, lengths, [source.randrange(1, greatest + 1) for _ in range(many)]


def path_up(parents, stand):
    """The stands from this one up to 0."""
    path = [stand]
    while parents[path[-1]] is not None:
        path.append(parents[path[-1]])
    return path


def by_the_way(parents, lengths, one, other):
    """How far two stands are: the sum of the lengths of those stands that are on one of both lines alone."""
    return sum(lengths[stand] for stand in set(path_up(parents, one)) ^ set(path_up(parents, other)))


def all_by_the_way(parents, lengths):
    """For each stand how far each one is from it."""
    stands = range(len(parents))
    return [[by_the_way(parents, lengths, one, other) for other in stands] for one in stands]


def altered(text, signs=SIGNS):
    """All other texts that come of this one with one sign put in, left out or exchanged for another one."""
    found = {text[:at] + text[at + 1:] for at in range(len(text))}
    for sign in signs:
        found.update(text[:at] + sign + text[at:] for at in range(len(text) + 1))
        found.update(text[:at] + sign + text[at + 1:] for at in range(len(text)))
    return sorted(found - {text})


def path_by_the_words(text):
    """The path that the text writes, which must write one."""
    return tuple(text.split("/")[1:]) if text != "/" else ()


def doc_by_the_words(text):
    """The document that the text writes, or None."""
    if not re.fullmatch(DOC, text):
        return None
    told = [part.split(" ") for part in text.split(", ")]
    doc = {path_by_the_words(path): int(number) for path, number in told}
    whole = len(doc) == len(told) and () in doc and all(path[:-1] in doc for path in doc)
    return doc if whole else None


def deed_by_the_words(text):
    """The tuple that tells the deed that the text writes, which must write one."""
    kind, *parts = text.split(" ")
    return (kind, *[path_by_the_words(part) if part.startswith("/") else int(part) for part in parts])


def row_by_the_words(text):
    """The list of the tuples that tell the row that the text writes, or None."""
    if not re.fullmatch(ROW, text):
        return None
    return [deed_by_the_words(part) for part in text.split("; ")] if text else []
