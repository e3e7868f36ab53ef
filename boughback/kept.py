"""A bough kept within a room: some documents are written whole, and each other one is told from one of these."""

from boughback.docs import is_whole
from boughback.errors import NoStand
from boughback.plans import plan, tree_of
from boughback.rows import row_done
from boughback.spans import spans
from boughback.ways import way_row


class Kept:
    """The stands that the bough has when this is made; what is grown later is not in it."""

    def __init__(self, bough, room):
        """Refuses with NoRoom."""
        tree = tree_of(bough)
        planned = plan(tree[0], tree[1], tree[2], room)
        self.most = planned[0]
        self.written = {}
        for stand in planned[1]:
            self.written[stand] = bough.doc(stand)
        # The entry with a stand's number is the whole one that it is told from, and the row that leads from there.
        self.told_from = []
        for stand, row in enumerate(spans(tree[0], tree[1])):
            nearest = min(planned[1], key=lambda whole: row[whole])
            self.told_from.append((nearest, way_row(bough, nearest, stand)))

    def far(self):
        """How many deeds at most each stand is from one that is written whole."""
        return self.most

    def whole(self):
        """The sorted list of the stands that are written whole."""
        return sorted(self.written)

    def near(self, stand):
        """A stand that is written whole, and the row that leads from its document to this one's; refuses NoStand."""
        self.must_keep(stand)
        found = self.told_from[stand]
        return (found[0], list(found[1]))

    def doc(self, stand):
        """The stand's document; refuses with NoStand."""
        found = self.near(stand)
        return row_done(self.written[found[0]], found[1])

    def must_keep(self, stand):
        """Refuses with NoStand where the stand is not in it."""
        # Python would take True, and numbers below 0, as places in a list.
        if not is_whole(stand) or not 0 <= stand < len(self.told_from):
            raise NoStand("there is no such stand")
