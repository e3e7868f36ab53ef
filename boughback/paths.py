"""Names and paths, and how paths lie to one another."""

LETTERS = "abcdefghijklmnopqrstuvwxyz"
LONGEST_NAME = 8


def is_name(text):
    """Whether the text is a name: one to eight small letters."""
    return 1 <= len(text) <= LONGEST_NAME and all([sign in LETTERS for sign in text])


def is_path(thing):
    """Whether the thing is a path: a tuple of names."""
    return isinstance(thing, tuple) and all([isinstance(name, str) and is_name(name) for name in thing])


def at_or_below(path, other):
    """Whether the path begins with all names of the other one."""
    return path[:len(other)] == other


def carried(path, old, new):
    """The path, with the new one's names in the place of the old one's where it begins with these."""
    if at_or_below(path, old):
        return new + path[len(old):]
    return path
