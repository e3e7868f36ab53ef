"""Deeds taken out of the midst of a row, put in again, and rows parted by one of their deeds."""

from boughback.docs import is_whole
from boughback.errors import Hangs, NoDeed
from boughback.moving import behind, clash


def taken_out(row, at):
    """The row without its deed of that number, and that deed as it is behind it; refuses with NoDeed, Hangs."""
    must_be_within(at, len(row))
    left = row[:at]
    back = row[at].back()
    for number in range(at + 1, len(row)):
        later = row[number]
        must_not_hang(back, later, number)
        left.append(behind(later, back))
        back = behind(back, later)
    return (left, back.back())


def put_in(row, at, deed):
    """The row with the deed, which fits behind it, put in at that place; refuses with NoDeed, Hangs."""
    # Behind the last deed there is one place more than there are deeds.
    must_be_within(at, len(row) + 1)
    later = []
    for number in range(len(row) - 1, at - 1, -1):
        back = row[number].back()
        must_not_hang(deed, back, number)
        deed = behind(deed, back)
        # No clash is left to look for: where a deed is at peace with a back, it is so with the deed, too.
        later.append(behind(row[number], deed))
    return row[:at] + [deed] + list(reversed(later))


def parted(row, at):
    """The rest, the out that begins with the deed of that number, and the reasons; refuses with NoDeed."""
    must_be_within(at, len(row))
    rest = row[:at]
    out = [row[at]]
    numbers = [at]
    reasons = []
    for number in range(at + 1, len(row)):
        try:
            together = put_in(out, 0, row[number])
        except Hangs as refusal:
            reasons.append((number, numbers[refusal.at]))
            numbers.append(number)
            out.append(row[number])
        else:
            rest.append(together[0])
            out = together[1:]
    return (rest, out, reasons)


def must_be_within(at, many):
    """Refuses with NoDeed where this is none of so many numbers from 0 on."""
    # Python would take True, and numbers below 0, as places in a list.
    if not is_whole(at) or not 0 <= at < many:
        raise NoDeed("the row has no such number")


def must_not_hang(deed, other, at):
    """Refuses with Hangs, with that number, where the two deeds clash."""
    part = clash(deed, other)
    if part is not None:
        raise Hangs(at, part)
