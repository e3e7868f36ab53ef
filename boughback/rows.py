"""Rows: lists of deeds that are done one behind another, whole or not at all."""

from boughback.errors import Unfit


def row_done(doc, row):
    """The new document that the row makes of this one; refuses with Unfit, at the first deed that does not fit."""
    # A row without deeds gives a copy too, so that the answer belongs to its asker.
    after = dict(doc)
    for at, deed in enumerate(row):
        try:
            after = deed.done(after)
        except Unfit:
            # By itself the deed counts as the first; here its number in the row is asked for.
            raise Unfit(at) from None
    return after


def row_fits(doc, row):
    """Whether each deed of the row fits what the ones ahead of it make of the document."""
    try:
        row_done(doc, row)
    except Unfit:
        return False
    return True


def row_back(row):
    """The row that leads back: the back of each deed, the last one first."""
    return [deed.back() for deed in reversed(row)]


def trimmed(row):
    """What is left of the row when each deed with its back straight behind it is left out, as long as there is one."""
    # What is left so far has no such pair, so a new one can only arise at its end.
    left = []
    for deed in row:
        if len(left) > 0 and left[-1].back().told() == deed.told():
            left.pop()
        else:
            left.append(deed)
    return left


def row_told(row):
    """The list of the tuples that tell the deeds."""
    return [deed.told() for deed in row]
