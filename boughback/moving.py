"""Deeds moved past one another: what a deed is behind an other one, and where two deeds clash."""

from boughback.deeds import Cut, Move, Put, Set
from boughback.errors import Clash
from boughback.paths import at_or_below, carried


def behind(deed, other):
    """The deed as it is behind the other one, whether they clash or not."""
    if not isinstance(other, Move):
        return deed
    path = carried(deed.path, other.path, other.goal)
    if isinstance(deed, Move):
        return Move(path, carried(deed.goal, other.path, other.goal))
    if isinstance(deed, Put):
        return Put(path, deed.number)
    if isinstance(deed, Cut):
        return Cut(path, deed.number)
    return Set(path, deed.old, deed.new)


def clash(deed, other):
    """The part on which the two deeds clash, or None where they are at peace."""
    # The root's path is a part too, and Python counts it as false: so None is asked for by name.
    part = clash_in_order(deed, other)
    if part is None:
        return clash_in_order(other, deed)
    return part


def clash_in_order(deed, other):
    """The part of the clash where the cases of the deed's own kind tell it, or None."""
    if isinstance(deed, Put):
        return clash_of_put(deed, other)
    if isinstance(deed, Cut):
        return clash_of_cut(deed, other)
    if isinstance(deed, Move):
        return clash_of_moves(deed, other)
    if isinstance(other, Set) and other.path == deed.path:
        return deed.path
    return None


def clash_of_put(put, other):
    """The part where the other one makes the same path, or cuts the one right above it; or None."""
    if isinstance(other, Put) and other.path == put.path:
        return put.path
    if isinstance(other, Move) and other.goal == put.path:
        return put.path
    if isinstance(other, Cut) and other.path == put.path[:-1]:
        return other.path
    return None


def clash_of_cut(cut, other):
    """The part where the other one moves something right below the path, or cuts, sets or moves the path; or None."""
    if isinstance(other, Move) and other.goal[:-1] == cut.path:
        return cut.path
    if not isinstance(other, Put) and other.path == cut.path:
        return cut.path
    return None


def clash_of_moves(move, other):
    """The part where the other one is a Move of the path, or to the goal, or each goes below the other; or None."""
    if not isinstance(other, Move):
        return None
    if other.path == move.path:
        return move.path
    if other.goal == move.goal:
        return move.goal
    # A goal lies below a path where what lies right above the goal lies at or below that path.
    if at_or_below(move.goal[:-1], other.path) and at_or_below(other.goal[:-1], move.path):
        return min(move.path, other.path)
    return None


def moved(deed, other):
    """The deed as it is behind the other one, with which it is at peace; refuses with Clash."""
    return along(deed, [other])


def along(deed, row):
    """The deed moved behind each of the row in turn; refuses with Clash, at the first one that it clashes with."""
    for at, other in enumerate(row):
        part = clash(deed, other)
        if part is not None:
            raise Clash(at, part)
        deed = behind(deed, other)
    return deed
