"""Stands taken out of a line, carried onto other stands, and poured together."""

from boughback.errors import Clash, Hangs, NoDeed
from boughback.grids import grid
from boughback.rows import row_back
from boughback.ways import meet, way_between, way_row


def take_out(bough, stand, gone):
    """Gone out of the line of stand: the new stands, and the row from the last one; refuses NoStand, NoDeed, Hangs."""
    line = bough.line(stand)
    bough.must_have(gone)
    if gone == 0 or gone not in line:
        raise NoDeed("the stand is not on the line, or is the root stand")
    way = way_between(bough, gone, stand)
    found = grid(row_back(bough.row(gone)), way_row(bough, gone, stand))
    if found[0] == "clash":
        cell = first_hanging(found[1], owners(way))
        raise Hangs(owners(way)[cell[1]], cell[2])
    return (grown_anew(bough, bough.parent(gone), way, found[2]), row_back(found[1]))


def carry(bough, gone, stand):
    """Gone carried onto stand: the new stand; refuses with NoStand, NoDeed, Clash."""
    bough.must_have(gone)
    bough.must_have(stand)
    if gone == 0:
        raise NoDeed("the root stand has no deeds")
    found = grid(bough.row(gone), way_row(bough, bough.parent(gone), stand))
    if found[0] == "clash":
        cell = min(found[1], key=lambda told: (told[1], told[0]))
        raise Clash(cell[1], cell[2])
    return bough.grow(stand, found[1])


def pour(bough, one, other):
    """("met", new, newer) with two stands of one document, or ("clash", list) of (stand, stand, part); NoStand."""
    top = meet(bough, one, other)
    if top == one:
        return ("met", other, other)
    if top == other:
        return ("met", one, one)
    found = grid(way_row(bough, top, one), way_row(bough, top, other))
    if found[0] == "clash":
        left = owners(way_between(bough, top, one))
        right = owners(way_between(bough, top, other))
        return ("clash", sorted(set([(left[i], right[j], part) for i, j, part in found[1]])))
    new = bough.grow(one, found[2])
    return ("met", new, bough.grow(other, found[1]))


def owners(way):
    """For each deed of a way that leads down, the stand whose row has it."""
    found = []
    for stand, row in way:
        found.extend([stand for deed in row])
    return found


def first_hanging(cells, stands):
    """The least of the cells whose other deed is of the first stand that has one; the list has each deed's stand."""
    first = stands[min([j for i, j, part in cells])]
    return [cell for cell in cells if stands[cell[1]] == first][0]


def grown_anew(bough, stand, way, deeds):
    """The new stands: for each row of the way one with as many of these deeds, the first one grown on the stand."""
    new = []
    start = 0
    for later, row in way:
        stand = bough.grow(stand, deeds[start:start + len(row)])
        new.append(stand)
        start += len(row)
    return new
