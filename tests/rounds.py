"""Webs with lots at random, and rings and plans found by trying all, by which the package is tested."""

import itertools
import random

from onefacers.kinds import Kinds
from onefacers.webs import Web
from tests.worlds import ends_of, facing, outer

LOTS = [(), (0,), (0, 0), (0, 1), (0, 0, 1), (0, 1, 0), (0, 1, 2), (0, 0, 0), (0, 0, 1, 1)]


def lotted_kinds(source, most=3):
    """Three kinds with lots of at most so many hands."""
    lots = [row for row in LOTS if len(row) <= most]
    return Kinds({word: source.choice(lots) for word in ("p", "q", "r")})


def lotted_web(source, kinds, many, names=None):
    """So many facers whose ends are tied in any way, some to OUTER ends."""
    names = names or [("abcdefgh"[number % 8], number // 8) for number in range(many)]
    source.shuffle(names)
    facers = [(who, source.choice(kinds.words())) for who in names]
    ends = ends_of(kinds, facers)
    outers = source.randrange(6)
    outers += (len(ends) + outers) % 2
    ends += [outer("o" + "abcdefg"[number]) for number in range(outers)]
    source.shuffle(ends)
    return Web(kinds, facers, facing(ends))


def lotted_world(seed, most=6):
    """A web of at least one facer."""
    source = random.Random(seed)
    return lotted_web(source, lotted_kinds(source, 4), source.randrange(1, most + 1))


def lot(web, end):
    who, number = end
    return -1 if number == 0 else web.kinds().lots(web.kind(who))[number - 1]


def turns(web, who, into):
    """The numbers of those ends of a facer that are of another lot."""
    numbers = range(web.kinds().hands(web.kind(who)) + 1)
    return [out for out in numbers if lot(web, (who, out)) != lot(web, (who, into))]


def rings_of(web):
    """All rings, by trying all ways."""
    found = []

    def go(ring, who, into):
        for out in turns(web, who, into):
            after, number = web.mate((who, out))
            if (after, number) == ring[0][:2] if ring else (after, number) == (who, into):
                found.append([*ring, (who, into, out)])
            elif after != () and after != who and after not in [part[0] for part in ring]:
                go([*ring, (who, into, out)], after, number)
    for who, word in web.facers():
        for into in range(web.kinds().hands(word) + 1):
            go([], who, into)
    return found


def pieces(web, whos):
    """Sets of those facers that hang together, of some."""
    rows = [{who} for who in whos]
    for (one, _), (other, _) in web.ties():
        near = [row for row in rows if one in row or other in row]
        if len(near) == 2:
            rows = [row for row in rows if row not in near] + [near[0] | near[1]]
    return rows


def may_be_first(web, who, whos):
    """Whether a facer may be next, of those that are there, itself among them."""
    rows = pieces(web, [other for other in whos if other != who])
    for one, other in itertools.combinations(range(web.kinds().hands(web.kind(who)) + 1), 2):
        near, far = web.mate((who, one))[0], web.mate((who, other))[0]
        if web.mate((who, one)) == (who, other) or any(near in row and far in row for row in rows):
            if lot(web, (who, one)) != lot(web, (who, other)):
                return False
    return True


def is_plan_by_trying(web, plan):
    return all(may_be_first(web, who, plan[at:]) for at, who in enumerate(plan))
