"""Shares of a tree's stands for a number, and stands that cover the tree within it: both come to the same."""

from boughback.spans import spans


def shares(parents, lengths, sizes, far):
    """A share for each stand: of all stands within the number of one, they come to at most the size of that one."""
    table = spans(parents, lengths)
    near = near_stands(table, far)
    left = list(sizes)
    given = [0 for stand in near]
    # The farthest from stand 0 first: in this order they come to as much as any can, as the stands that cover show.
    for stand in reversed(outward(table)):
        share = min([left[other] for other in near[stand]])
        given[stand] = share
        for other in near[stand]:
            left[other] -= share
    return given


def cover(parents, lengths, sizes, far):
    """The sorted list of stands that cover the tree within the number, whose sizes come to what the shares do."""
    table = spans(parents, lengths)
    near = near_stands(table, far)
    given = shares(parents, lengths, sizes, far)
    chosen = []
    reached = {}
    # Each stand is near one whose size is all given out. Where that one is not chosen, one that is no farther from
    # stand 0 was chosen ahead of it for a share near both, and then the stand is near the chosen one, too.
    for stand in outward(table):
        holders = [other for other in near[stand] if given[other] > 0]
        full = sum([given[holder] for holder in holders]) == sizes[stand]
        # A share near two chosen ones would count twice, and the sizes would come to more than the shares.
        if full and not any([holder in reached for holder in holders]):
            chosen.append(stand)
            for holder in holders:
                reached[holder] = True
    return sorted(chosen)


def near_stands(table, far):
    """For each stand the list of all stands within the number of it."""
    near = []
    for row in table:
        near.append([stand for stand, span in enumerate(row) if span <= far])
    return near


def outward(table):
    """All stands, the nearest to stand 0 first."""
    return sorted(range(len(table)), key=lambda stand: table[0][stand])
