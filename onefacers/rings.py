"""Rings of a web: facers tied one to the next, and the last one to the first one, by ends of unlike lots."""

from onefacers.ends import is_end, mates_of
from onefacers.errors import NoEnd, TooMany
from onefacers.peeling import lots_of
from onefacers.turning import is_ring_in, ring_in

MOST_LOOKED = 24


def lot_of(web, end):
    """The lot of an end of a facer: its hand's, of its face -1."""
    if not is_end(end) or not web.has(end[0]):
        raise NoEnd(end)
    who, number = end
    lots = lots_of(web.kinds(), [(who, web.kind(who))])[who]
    if not 0 <= number < len(lots):
        raise NoEnd(end)
    return lots[number]


def is_ring(web, thing):
    """Whether a thing is a ring of a web."""
    return is_ring_in(lots_of(web.kinds(), web.facers()), mates_of(web.ties()), thing)


def ring_of(web):
    """Some ring of a web, or None."""
    if len(web) > MOST_LOOKED:
        raise TooMany(MOST_LOOKED)
    return ring_in(lots_of(web.kinds(), web.facers()), mates_of(web.ties()))
