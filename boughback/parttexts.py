"""Whole numbers, paths and documents, written as texts and read from such."""

from boughback.docs import is_doc
from boughback.errors import NoText
from boughback.paths import is_path

FIGURES = "0123456789"
MOST_FIGURES = 60
MOST_NAMES = 40


def show_number(number):
    """The text that writes the number."""
    return str(number)


def show_path(path):
    """The text that writes the path."""
    return "/" + "/".join(path)


def show_doc(doc):
    """The text that writes the document, its parts sorted."""
    return ", ".join([show_path(path) + " " + show_number(doc[path]) for path in sorted(doc)])


def read_number(text):
    """The number that the text writes; refuses with NoText."""
    figures = text[1:] if text.startswith("-") else text
    # Python reads signs as figures, and bounds how many it reads, in its own ways; so both are looked at ahead of it.
    if not 1 <= len(figures) <= MOST_FIGURES or not all([sign in FIGURES for sign in figures]):
        raise NoText(0)
    number = int(text)
    # Noughts ahead, and a nought below 0, are not what the number is written by.
    if show_number(number) != text:
        raise NoText(0)
    return number


def read_path(text):
    """The path that the text writes; refuses with NoText."""
    path = () if text == "/" else tuple(text[1:].split("/"))
    # The first sign is not among the names, so what they are written by is held against the whole text.
    if not is_path(path) or len(path) > MOST_NAMES or show_path(path) != text:
        raise NoText(0)
    return path


def read_doc(text):
    """The document that the text writes, its parts in any order; refuses with NoText."""
    parts = {}
    for part in text.split(", "):
        words = part.split(" ")
        if len(words) != 2:
            raise NoText(0)
        path = read_path(words[0])
        if path in parts:
            raise NoText(0)
        parts[path] = read_number(words[1])
    if not is_doc(parts):
        raise NoText(0)
    return parts
