"""A desk: it has a bough, is told rows of text, and answers them with texts."""

from boughback.boughtexts import read_bough, show_bough
from boughback.deedtexts import read_row, show_row
from boughback.differ import differ
from boughback.errors import NoText
from boughback.parttexts import read_number, show_doc, show_number, show_path
from boughback.paths import is_name
from boughback.plans import plan, tree_of
from boughback.pouring import carry, pour, take_out
from boughback.ways import way_row

# What stands behind the first word of each row that may be said.
FORMS = {
    "grow": ("stand", "row"),
    "doc": ("stand",),
    "way": ("stand", "stand"),
    "differ": ("stand", "stand"),
    "out": ("stand", "stand"),
    "carry": ("stand", "stand"),
    "pour": ("stand", "stand"),
    "plan": ("room",),
    "word": ("word", "stand"),
    "drop": ("word",),
    "text": (),
}


class Desk:
    """A bough, read from a text, and what is asked of it and done with it by rows of text."""

    def __init__(self, text):
        """Refuses with NoText, as the reading of a bough does."""
        self.bough = read_bough(text)

    def say(self, row):
        """The text that answers the row; refuses with NoText, then with whatever the asked for refuses with."""
        said = read_said(row)
        parts = found_parts(self.bough, said[0], said[1:])
        return answer(self.bough, said[0], parts)


def read_said(row):
    """The list of the first word of the row and of its parts, as they are read; refuses with NoText."""
    # No row has more than two parts, and of these a row of deeds alone has blanks of its own.
    words = row.split(" ", 2)
    if words[0] not in FORMS or len(words) != len(FORMS[words[0]]) + 1:
        raise NoText(0)
    return words[:1] + [read_part(kind, word) for kind, word in zip(FORMS[words[0]], words[1:])]


def read_part(kind, text):
    """What the text writes, as the kind says: of a stand a number or a word; refuses with NoText."""
    if kind == "row":
        return read_deeds(text)
    if kind == "room":
        return read_from_nought(text)
    if is_name(text):
        return text
    if kind == "word":
        raise NoText(0)
    return read_from_nought(text)


def read_deeds(text):
    """The row of one deed at least that the text writes; refuses with NoText."""
    row = read_row(text)
    if len(row) == 0:
        raise NoText(0)
    return row


def read_from_nought(text):
    """The number from 0 on that the text writes; refuses with NoText."""
    number = read_number(text)
    if number < 0:
        raise NoText(0)
    return number


def found_parts(bough, first, parts):
    """The parts, with stands by their numbers; refuses with NoWord and NoStand, from the left, and with Twice."""
    if first == "word":
        # Its stand is looked at behind the word alone.
        bough.must_be_free(parts[0])
    found = []
    for kind, part in zip(FORMS[first], parts):
        found.append(found_stand(bough, part) if kind == "stand" else part)
    return found


def found_stand(bough, told):
    """The stand that is told by its number or by a word; refuses with NoStand, NoWord."""
    if isinstance(told, str):
        return bough.called(told)
    bough.must_have(told)
    return told


def answer(bough, first, parts):
    """The text that answers the row of this first word and these parts; refuses with what the asked for does."""
    if first == "grow":
        return show_number(bough.grow(parts[0], parts[1]))
    if first == "doc":
        return show_doc(bough.doc(parts[0]))
    if first == "way":
        return show_row(way_row(bough, parts[0], parts[1]))
    if first == "differ":
        return show_row(differ(bough.doc(parts[0]), bough.doc(parts[1])))
    if first == "out":
        return answer_out(bough, parts[0], parts[1])
    if first == "carry":
        return show_number(carry(bough, parts[0], parts[1]))
    if first == "pour":
        return answer_pour(bough, parts[0], parts[1])
    if first == "plan":
        return answer_plan(bough, parts[0])
    if first == "word":
        bough.call(parts[0], parts[1])
        return "ok"
    if first == "drop":
        bough.drop(parts[0])
        return "ok"
    return show_bough(bough)


def answer_out(bough, stand, gone):
    """The last new stand, the parent of the one that is gone where there is none, and the told row."""
    taken = take_out(bough, stand, gone)
    last = ([bough.parent(gone)] + taken[0])[-1]
    return show_number(last) + " " + show_row(taken[1])


def answer_pour(bough, one, other):
    """The word "met" and both stands, or "clash" and each clash: two stands and the path."""
    poured = pour(bough, one, other)
    if poured[0] == "met":
        return " ".join(["met", show_number(poured[1]), show_number(poured[2])])
    words = ["clash"]
    for left, right, part in poured[1]:
        words.extend([show_number(left), show_number(right), show_path(part)])
    return " ".join(words)


def answer_plan(bough, room):
    """How far the plan's stands are at most from all others, and these stands."""
    tree = tree_of(bough)
    planned = plan(tree[0], tree[1], tree[2], room)
    return " ".join([show_number(number) for number in [planned[0]] + planned[1]])
