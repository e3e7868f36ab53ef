"""Boughs, written as rows of text and read from such."""

from boughback.boughs import Bough
from boughback.deedtexts import read_row, show_row
from boughback.errors import BoughError, NoText
from boughback.parttexts import read_doc, read_number, show_doc, show_number


def show_bough(bough):
    """The rows of text that write the bough, parted by line ends: the root's document, the stands, the words."""
    rows = [show_doc(bough.doc(0))]
    for stand in range(1, bough.many()):
        rows.append(show_number(bough.parent(stand)) + " " + show_row(bough.row(stand)))
    for word in bough.words():
        rows.append("@" + word + " " + show_number(bough.called(word)))
    return "\n".join(rows)


def read_bough(text):
    """The bough that the text writes; refuses with NoText, at the first row that may not stand where it stands."""
    rows = text.split("\n")
    bough = Bough(read_doc(rows[0]))
    for at, row in enumerate(rows[1:], start=1):
        try:
            follow(bough, row)
        except BoughError:
            # Whatever a row is refused with by itself, here it is a text that writes no bough.
            raise NoText(at) from None
    return bough


def follow(bough, row):
    """Grows the stand, or gives the word, that the row writes; refuses where it may not stand behind the ones ahead."""
    if row.startswith("@"):
        read_word(bough, row[1:])
    elif len(bough.words()) == 0:
        read_stand(bough, row)
    else:
        # Behind a word's row no stand's may stand.
        raise NoText(0)


def read_stand(bough, row):
    """Grows the stand whose parent and row are written; refuses where it can't be."""
    parts = row.partition(" ")
    bough.grow(read_number(parts[0]), read_row(parts[2]))


def read_word(bough, row):
    """Gives the word that is written, with its stand; refuses where it can't be, or is not sorted."""
    parts = row.partition(" ")
    words = bough.words()
    if len(words) > 0 and parts[0] < words[-1]:
        raise NoText(0)
    bough.call(parts[0], read_number(parts[2]))
