"""Plans of a web: its facers in an order in which each may be next."""

from onefacers.ends import mates_of
from onefacers.errors import TooMany
from onefacers.peeling import lots_of, may_be_next, peeled, put_in
from onefacers.rings import MOST_LOOKED


def is_plan(web, thing):
    """Whether a thing is a list of all facers' WHOS in an order in which each may be next."""
    if not isinstance(thing, (list, tuple)) or len(thing) != len(web):
        return False
    if not all([web.has(who) for who in thing]) or len({who: True for who in thing}) != len(web):
        return False
    lots = lots_of(web.kinds(), web.facers())
    mates = mates_of(web.ties())
    pieces = {}
    # From the last one on: so those that are there without a facer are those that were put in ahead of it.
    for who in reversed(thing):
        if not may_be_next(lots, mates, who, pieces):
            return False
        put_in(lots, mates, who, pieces)
    return True


def plan_of(web):
    """Some plan of a web, or None."""
    if len(web) > MOST_LOOKED:
        raise TooMany(MOST_LOOKED)
    lots = lots_of(web.kinds(), web.facers())
    plan, left = peeled(lots, mates_of(web.ties()), list(lots))
    return plan if len(left) == 0 else None
