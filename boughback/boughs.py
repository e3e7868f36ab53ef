"""A bough: a tree of stands, each with its document, in which nothing is ever lost, and words given to stands."""

from boughback.docs import is_whole
from boughback.errors import Empty, NoStand, NoWord, Twice
from boughback.paths import is_name
from boughback.rows import row_done


class Bough:
    """Stands 0, 1, 2 and so on; each but 0 is grown on a lesser one, its parent, by a row."""

    def __init__(self, doc):
        # The entry with a stand's number, in each of the three lists, is that stand's.
        self.docs = [dict(doc)]
        self.parents = [None]
        self.rows = [[]]
        self.given = {}

    def many(self):
        """How many stands there are."""
        return len(self.docs)

    def grow(self, stand, row):
        """A new stand, grown on the stand by the row; refuses with NoStand, Empty, Unfit."""
        self.must_have(stand)
        if len(row) == 0:
            raise Empty("a stand is grown by one deed at least")
        # All that may refuse comes ahead of the first change.
        doc = row_done(self.docs[stand], row)
        self.docs.append(doc)
        self.parents.append(stand)
        self.rows.append(list(row))
        return len(self.docs) - 1

    def doc(self, stand):
        """The stand's document; refuses with NoStand."""
        self.must_have(stand)
        return dict(self.docs[stand])

    def parent(self, stand):
        """The stand on which this one was grown, None of 0; refuses with NoStand."""
        self.must_have(stand)
        return self.parents[stand]

    def row(self, stand):
        """The row by which the stand was grown, [] of 0; refuses with NoStand."""
        self.must_have(stand)
        return list(self.rows[stand])

    def line(self, stand):
        """The list of stands from 0 to this one, each the parent of the next one; refuses with NoStand."""
        self.must_have(stand)
        upward = []
        here = stand
        while here is not None:
            upward.append(here)
            here = self.parents[here]
        return list(reversed(upward))

    def call(self, word, stand):
        """Gives the word to the stand; refuses with NoWord, Twice, NoStand."""
        self.must_be_free(word)
        self.must_have(stand)
        self.given[word] = stand

    def drop(self, word):
        """Takes the word from its stand; refuses with NoWord."""
        self.must_be_given(word)
        self.given.pop(word)

    def called(self, word):
        """The stand to which the word is given; refuses with NoWord."""
        self.must_be_given(word)
        return self.given[word]

    def words(self):
        """The sorted list of all words that are given."""
        return sorted(self.given)

    def must_have(self, stand):
        """Refuses with NoStand where the stand is not there."""
        # Python would take True, and numbers below 0, as places in a list.
        if not is_whole(stand) or not 0 <= stand < len(self.docs):
            raise NoStand("there is no such stand")

    def must_be_free(self, word):
        """Refuses with NoWord where the text is no name, with Twice where the word is given already."""
        if not is_name(word):
            raise NoWord("a word is one to eight small letters")
        if word in self.given:
            raise Twice("the word is given already")

    def must_be_given(self, word):
        """Refuses with NoWord where the word is not given."""
        if word not in self.given:
            raise NoWord("no such word is given")
