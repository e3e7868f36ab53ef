"""Ways: how each stand of a bough is come to from each other one."""

from boughback.rows import row_back


def meet(bough, one, other):
    """The last stand that the lines of both have; refuses with NoStand."""
    line = bough.line(other)
    return [stand for stand in bough.line(one) if stand in line][-1]


def way_between(bough, one, other):
    """The tuples (stand, row) from the one stand up to where both meet, then down to the other one."""
    top = meet(bough, one, other)
    way = []
    stand = one
    while stand != top:
        row = row_back(bough.row(stand))
        stand = bough.parent(stand)
        way.append((stand, row))
    line = bough.line(other)
    for lower in line[line.index(top) + 1:]:
        way.append((lower, bough.row(lower)))
    return way


def way_row(bough, one, other):
    """The one row of all deeds of the way from the one stand to the other."""
    deeds = []
    for stand, row in way_between(bough, one, other):
        deeds.extend(row)
    return deeds
