"""Rings among facers of any names, told by their lots and mates as `peeling` has them."""

from onefacers.ends import ties_of
from onefacers.kinds import is_whole
from onefacers.peeling import peeled


def _is_plain(thing):
    """Whether a thing is a tuple of texts and whole numbers, so that it can be looked up."""
    return isinstance(thing, tuple) and all([isinstance(part, str) or is_whole(part) for part in thing])


def _is_turn(lots, thing):
    """Whether a thing is a facer with the numbers of two of its ends, of unlike lots."""
    if not isinstance(thing, tuple) or len(thing) != 3:
        return False
    who, into, out = thing
    if not _is_plain(who) or who not in lots:
        return False
    for number in (into, out):
        if not is_whole(number) or not 0 <= number < len(lots[who]):
            return False
    return lots[who][into] != lots[who][out]


def is_ring_in(lots, mates, thing):
    """Whether a thing is a ring, a list or a tuple."""
    if not isinstance(thing, (list, tuple)) or len(thing) == 0:
        return False
    if not all([_is_turn(lots, part) for part in thing]) or len({part[0]: True for part in thing}) != len(thing):
        return False
    for at, (who, _, out) in enumerate(thing):
        after, into, _ = thing[(at + 1) % len(thing)]
        if mates[(who, out)] != (after, into):
            return False
    return True


def _among(mates, whos):
    """The mates of those ends that are tied within some facers."""
    there = {who: True for who in whos}
    return {end: mate for end, mate in mates.items() if end[0] in there and mate[0] in there}


def _round(mates, many):
    """The ring of so many facers whose ends are the only ones that are tied."""
    who, into = min(mates)
    ring = []
    for _ in range(many):
        out = [number for other, number in mates if other == who and number != into][0]
        ring.append((who, into, out))
        who, into = mates[(who, out)]
    return ring


def ring_in(lots, mates):
    """Some ring, or None."""
    _, left = peeled(lots, mates, list(lots))
    if len(left) == 0:
        return None
    held = _among(mates, left)
    # There is a ring as long as some facers have no plan. So each tie without which there is
    # still one is left out, and those of one ring are left.
    for tie in ties_of(held):
        fewer = {end: held[end] for end in held if end not in tie}
        _, rest = peeled(lots, fewer, left)
        if len(rest) > 0:
            held, left = _among(fewer, rest), rest
    return _round(held, len(left))
