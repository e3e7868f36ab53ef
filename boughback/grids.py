"""Grids: two rows that begin at one document, where each deed of the one meets each deed of the other."""

from boughback.moving import behind, clash


def grid(ones, others):
    """("met", ones, others) with both rows as they became, or ("clash", cells) with sorted tuples (i, j, part)."""
    now = list(ones)
    became = []
    cells = []
    for j, other in enumerate(others):
        for i in range(len(ones)):
            cell = crossed(now[i], other)
            now[i] = cell[0]
            other = cell[1]
            if cell[2] is not None:
                cells.append((i, j, cell[2]))
        became.append(other)
    if len(cells) > 0:
        return ("clash", sorted(cells))
    return ("met", now, became)


def crossed(one, other):
    """What comes of a cell: each deed behind the other one, and the part of the clash; None for what there is not."""
    # A cell that lacks a deed, or whose deeds clash, hands on nothing.
    if one is None or other is None:
        return (None, None, None)
    part = clash(one, other)
    if part is not None:
        return (None, None, part)
    return (behind(one, other), behind(other, one), None)
