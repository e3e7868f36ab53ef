"""Deeds and rows, written as texts and read from such."""

from boughback.deeds import deed_of
from boughback.errors import NoText
from boughback.parttexts import read_number, read_path, show_number, show_path

# What stands behind the first word of each kind of deed, as it is told and as it is written.
PARTS = {
    "put": ("path", "number"),
    "cut": ("path", "number"),
    "set": ("path", "number", "number"),
    "move": ("path", "path"),
}


def show_deed(deed):
    """The text that writes the deed."""
    told = deed.told()
    parts = [show_part(kind, part) for kind, part in zip(PARTS[told[0]], told[1:])]
    return " ".join([told[0]] + parts)


def show_row(row):
    """The text that writes the row, without signs where it has no deeds."""
    return "; ".join([show_deed(deed) for deed in row])


def read_deed(text):
    """The deed that the text writes, whether it fits any document or not; refuses with NoText."""
    words = text.split(" ")
    if words[0] not in PARTS or len(words) != len(PARTS[words[0]]) + 1:
        raise NoText(0)
    parts = [read_part(kind, word) for kind, word in zip(PARTS[words[0]], words[1:])]
    return deed_of(tuple(words[:1] + parts))


def read_row(text):
    """The row that the text writes; refuses with NoText."""
    if text == "":
        return []
    return [read_deed(part) for part in text.split("; ")]


def show_part(kind, part):
    """The text that writes a path or a number, as the kind says."""
    if kind == "path":
        return show_path(part)
    return show_number(part)


def read_part(kind, text):
    """The path or the number, as the kind says, that the text writes; refuses with NoText."""
    if kind == "path":
        return read_path(text)
    return read_number(text)
