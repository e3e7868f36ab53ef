"""Documents: dicts from paths to whole numbers, each path with the one above it."""

from boughback.paths import at_or_below, is_path


def is_whole(thing):
    """Whether the thing is a whole number."""
    # Python counts True and False among its whole numbers, the document does not.
    return isinstance(thing, int) and not isinstance(thing, bool)


def is_part(parts, path):
    """Whether the path may stand among the parts with the number that it bears there."""
    # The root's path without its last name is itself, so it needs no case of its own.
    return is_path(path) and is_whole(parts[path]) and path[:-1] in parts


def is_doc(parts):
    """Whether the parts are a document."""
    return () in parts and all([is_part(parts, path) for path in parts])


def below(doc, path):
    """The sorted list of the document's paths that lie below the path, whether it is there itself or not."""
    return sorted([each for each in doc if len(each) > len(path) and at_or_below(each, path)])
