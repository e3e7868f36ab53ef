"""The four kinds of deeds: where each fits, what it makes, its back, and how it is told."""

from boughback.docs import below, is_whole
from boughback.errors import Unfit
from boughback.paths import at_or_below, carried


class Deed:
    """What the four kinds share; nobody makes one of it by itself."""

    def done(self, doc):
        """The new document that the deed makes of this one; refuses with Unfit."""
        if not self.fits(doc):
            raise Unfit(0)
        return self.made(doc)


class Put(Deed):
    """A path comes to be there, with a number."""

    def __init__(self, path, number):
        self.path = path
        self.number = number

    def fits(self, doc):
        """Whether the deed fits the document."""
        # The root's path never fits: it is there in each document.
        return is_whole(self.number) and self.path not in doc and self.path[:-1] in doc

    def made(self, doc):
        """What comes of a document that the deed fits."""
        after = dict(doc)
        after[self.path] = self.number
        return after

    def back(self):
        """The deed that leads back."""
        return Cut(self.path, self.number)

    def told(self):
        """The tuple that tells the deed."""
        return ("put", self.path, self.number)


class Cut(Deed):
    """A path below which nothing lies goes, with its number."""

    def __init__(self, path, number):
        self.path = path
        self.number = number

    def fits(self, doc):
        """Whether the deed fits the document."""
        if self.path == () or self.path not in doc:
            return False
        return is_whole(self.number) and doc[self.path] == self.number and below(doc, self.path) == []

    def made(self, doc):
        """What comes of a document that the deed fits."""
        after = dict(doc)
        after.pop(self.path)
        return after

    def back(self):
        """The deed that leads back."""
        return Put(self.path, self.number)

    def told(self):
        """The tuple that tells the deed."""
        return ("cut", self.path, self.number)


class Set(Deed):
    """A path gets a new number in the place of the old one."""

    def __init__(self, path, old, new):
        self.path = path
        self.old = old
        self.new = new

    def fits(self, doc):
        """Whether the deed fits the document."""
        if not is_whole(self.old) or not is_whole(self.new) or self.old == self.new:
            return False
        return self.path in doc and doc[self.path] == self.old

    def made(self, doc):
        """What comes of a document that the deed fits."""
        after = dict(doc)
        after[self.path] = self.new
        return after

    def back(self):
        """The deed that leads back."""
        return Set(self.path, self.new, self.old)

    def told(self):
        """The tuple that tells the deed."""
        return ("set", self.path, self.old, self.new)


class Move(Deed):
    """A path goes to a goal, and takes along all that lies below it."""

    def __init__(self, path, goal):
        self.path = path
        self.goal = goal

    def fits(self, doc):
        """Whether the deed fits the document."""
        # The root's path is never moved, as each place lies at or below it, and never a goal, as it is always there.
        place = self.goal[:-1]
        return self.path in doc and self.goal not in doc and place in doc and not at_or_below(place, self.path)

    def made(self, doc):
        """What comes of a document that the deed fits."""
        after = {}
        for path in doc:
            after[carried(path, self.path, self.goal)] = doc[path]
        return after

    def back(self):
        """The deed that leads back."""
        return Move(self.goal, self.path)

    def told(self):
        """The tuple that tells the deed."""
        return ("move", self.path, self.goal)


def deed_of(told):
    """The deed that the tuple tells."""
    kind = told[0]
    if kind == "put":
        return Put(told[1], told[2])
    if kind == "cut":
        return Cut(told[1], told[2])
    if kind == "set":
        return Set(told[1], told[2], told[3])
    if kind == "move":
        return Move(told[1], told[2])
    raise KeyError(kind)
