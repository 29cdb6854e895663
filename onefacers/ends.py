"""Ends of facers, OUTER ends, and the ties between them."""

from onefacers.kinds import is_name, is_who, is_whole


def is_pair(thing):
    """Whether a thing is a tuple of two."""
    return isinstance(thing, tuple) and len(thing) == 2


def is_outer(end):
    """Whether an end is an OUTER one."""
    return len(end[0]) == 0


def is_end(thing):
    """Whether a thing is an OUTER end, or could be the end of some facer."""
    if not is_pair(thing):
        return False
    who, number = thing
    if isinstance(who, tuple) and len(who) == 0:
        return is_name(number)
    return is_who(who) and is_whole(number)


def ties_of(mates):
    """The ties, rising, lesser ends first, of a dict from each end to its mate."""
    return [(end, mates[end]) for end in sorted(mates) if end < mates[end]]


def mates_of(ties):
    """A dict from each end in ties to its mate."""
    mates = {}
    for one, other in ties:
        mates[one] = other
        mates[other] = one
    return mates
