"""Plans: which stands of a tree are written whole, so that within a room all others are as near to one as may be."""

from boughback.errors import NoRoom
from boughback.shares import cover, shares
from boughback.spans import spans


def plan(parents, lengths, sizes, room):
    """(far, stands, shares): the least far for the room, stands that cover so, shares that show it; refuses NoRoom."""
    if min(sizes) > room:
        raise NoRoom("no stand is so small")
    far = least_far(parents, lengths, sizes, room)
    stands = cover(parents, lengths, sizes, far)
    if far == 0:
        return (far, stands, [])
    return (far, stands, shares(parents, lengths, sizes, far - 1))


def least_far(parents, lengths, sizes, room):
    """The least number within which stands that the room holds cover the tree; the least stand must have room."""
    steps = all_spans(parents, lengths)
    # At the greatest step each stand covers the tree by itself, so the last one always does.
    low = 0
    high = len(steps) - 1
    while low < high:
        middle = (low + high) // 2
        # Shares come to what the least stands that cover come to.
        if sum(shares(parents, lengths, sizes, steps[middle])) <= room:
            high = middle
        else:
            low = middle + 1
    return steps[low]


def all_spans(parents, lengths):
    """The sorted list of how far any two stands are, each number once; 0 is the first."""
    found = {}
    for row in spans(parents, lengths):
        for span in row:
            found[span] = True
    return sorted(found)


def tree_of(bough):
    """The lists of parents, of lengths and of sizes: each stand's parent, its deeds and its document's parts."""
    stands = list(range(bough.many()))
    parents = [bough.parent(stand) for stand in stands]
    lengths = [len(bough.row(stand)) for stand in stands]
    sizes = [len(bough.doc(stand)) for stand in stands]
    return (parents, lengths, sizes)
