"""Beats of so many hands, longest rows of causes, and the bound of beats."""

from onefacers.benches import Bench
from onefacers.causes import with_causes
from onefacers.errors import NoCount, TooMany
from onefacers.heaps import MOST_MEETINGS, check_limit
from onefacers.kinds import is_whole


def schedule(book, web, *, hands=1, limit=MOST_MEETINGS):
    """The beats in which so many hands do all meetings, each a rising list of those that are done in it."""
    bench = Bench(book, web)
    if not is_whole(hands) or hands < 1:
        raise NoCount("hands are a whole number from 1 on")
    check_limit(limit)
    beats = []
    many = 0
    pairs = bench.pairs()
    while len(pairs) > 0:
        beat = [left for left, _ in pairs[:hands]]
        many += len(beat)
        if many > limit:
            raise TooMany(limit)
        for left in beat:
            bench.meet(left)
        beats.append(beat)
        pairs = bench.pairs()
    return beats


def longest(book, web, names):
    """A longest row of a heap: each a cause of the next one."""
    _, causes = with_causes(book, web, names)
    # For each of the heap, causes ahead, a longest row that ends with it.
    rows = {}
    for who in causes:
        rows[who] = max([rows[cause] for cause in causes[who]], key=len, default=[]) + [who]
    return max(list(rows.values()), key=len, default=[])


def bound(many, length, hands):
    """How many beats so many hands need at most for so many meetings, whose longest row has that length."""
    if not is_whole(many) or not is_whole(length) or not is_whole(hands):
        raise NoCount("a bound is told of whole numbers")
    if not 0 <= length <= many or hands < 1:
        raise NoCount("a length from 0 to that of the meetings, and one hand or more")
    return (many - length) // hands + length
