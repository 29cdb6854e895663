"""Wishes, and the meetings that have to be done for one."""

from onefacers.benches import Bench
from onefacers.ends import is_outer, is_pair
from onefacers.errors import NoWish, TooMany
from onefacers.heaps import MOST_MEETINGS, check_limit
from onefacers.kinds import FACE, is_name, is_who
from onefacers.whys import why_of


def is_wish(web, thing):
    """Whether a thing is a wish that a web can have."""
    if not is_pair(thing) or not isinstance(thing[0], str):
        return False
    word, goal = thing
    if word == "meet":
        return is_who(goal)
    return word == "end" and is_name(goal) and goal in web.outers()


def _is_fulfilled(bench, wish):
    word, goal = wish
    if word == "meet":
        return bench.has_met(goal)
    mate = bench.mate(((), goal))
    return is_outer(mate) or mate[1] == FACE


def _in_the_way(bench, wish):
    """The facer that is in the way of a wish that isn't fulfilled, or None."""
    word, goal = wish
    if word == "end":
        return bench.mate(((), goal))[0]
    for many in range(len(goal), 0, -1):
        if bench.has(goal[:many]):
            return goal[:many]
    return None


def need(book, web, wish, *, limit=MOST_MEETINGS):
    """The least heap behind which a wish is fulfilled, rising, or None where there is none."""
    bench = Bench(book, web)
    if not is_wish(web, wish):
        raise NoWish("no wish that this web can have")
    check_limit(limit)
    done = []
    while not _is_fulfilled(bench, wish):
        who = _in_the_way(bench, wish)
        if who is None:
            return None
        word, chain = why_of(bench, who)
        if word != "ready":
            return None
        if len(done) == limit:
            raise TooMany(limit)
        done.append(bench.left_of(chain[-1]))
        bench.meet(done[-1])
    return sorted(done)
