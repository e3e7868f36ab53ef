"""What two documents differ by, as a row that leads from the one to the other."""

from boughback.deeds import Cut, Put, Set


def differ(one, other):
    """The shortest row of Cuts, then Puts, then Sets that leads from the one document to the other."""
    # A path stands ahead of those below it when sorted: so these are cut ahead of it, and put behind it.
    cuts = [Cut(path, one[path]) for path in sorted(one, reverse=True) if path not in other]
    puts = [Put(path, other[path]) for path in sorted(other) if path not in one]
    shared = [path for path in sorted(one) if path in other]
    sets = [Set(path, one[path], other[path]) for path in shared if one[path] != other[path]]
    return cuts + puts + sets
