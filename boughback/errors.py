"""The refusals of the program: one base, and ten that stand side by side under it."""


class BoughError(ValueError):
    """Any refusal."""


class Unfit(BoughError):
    """A deed does not fit; at is its number in the row, 0 of a deed by itself."""

    def __init__(self, at):
        BoughError.__init__(self, at)
        self.at = at


class NoText(BoughError):
    """A text writes nothing that was asked for; at is the number of its first wrong row."""

    def __init__(self, at):
        BoughError.__init__(self, at)
        self.at = at


class Clash(BoughError):
    """Two deeds clash; at is the number of the other one, part the path that they clash on."""

    def __init__(self, at, part):
        BoughError.__init__(self, at, part)
        self.at = at
        self.part = part


class Hangs(BoughError):
    """Something hangs on what was to go; at tells which, part the path on which it hangs."""

    def __init__(self, at, part):
        BoughError.__init__(self, at, part)
        self.at = at
        self.part = part


class NoStand(BoughError):
    """There is no such stand."""


class NoDeed(BoughError):
    """There is no such deed, or no such place for one."""


class Empty(BoughError):
    """A row has no deeds where it must have one."""


class NoWord(BoughError):
    """A text is no name, or a word that is not given."""


class Twice(BoughError):
    """A word is given already."""


class NoRoom(BoughError):
    """The room is too little for any stand."""
