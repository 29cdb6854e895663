"""Causes of meetings: what has to be done ahead of each of them."""

from onefacers.benches import Bench
from onefacers.errors import NoHeap, NoMeeting
from onefacers.heaps import could_be_heap, row_of
from onefacers.kinds import FACE, is_who


def _causes_on(bench, causes, left):
    """The causes of a meeting that is ready on a bench, by a dict from each that was done to its causes."""
    found = {}
    # A WHO's beginning is a meeting that was done, or the facer stood in the first web.
    for cause in [left[:-1], bench.right_of(left)[:-1]] + bench.trail((left, FACE)):
        if cause in causes:
            found[cause] = True
            for one in causes[cause]:
                found[one] = True
    return list(found)


def with_causes(book, web, names):
    """The bench behind a heap, and a dict from each of the heap to its causes, causes ahead."""
    row = row_of(book, web, names)
    bench = Bench(book, web)
    causes = {}
    for who in row:
        causes[who] = _causes_on(bench, causes, who)
        bench.meet(who)
    return (bench, causes)


def causes_of(book, web, names, who):
    """The causes of a meeting that is in a heap or ready behind it, rising."""
    bench, causes = with_causes(book, web, names)
    if not is_who(who):
        raise NoMeeting(who)
    if who in causes:
        return sorted(causes[who])
    if not bench.is_ready(who):
        raise NoMeeting(who)
    return sorted(_causes_on(bench, causes, who))


def lengths(book, web, names):
    """A dict from each of a heap to its length: 1 more than the greatest of its causes."""
    _, causes = with_causes(book, web, names)
    found = {}
    for who in causes:
        found[who] = 1 + max([found[cause] for cause in causes[who]], default=0)
    return {who: found[who] for who in sorted(found)}


def lasts(book, web, names):
    """Those of a heap that are causes of none other of it, rising."""
    _, causes = with_causes(book, web, names)
    bearing = {cause: True for who in causes for cause in causes[who]}
    return sorted([who for who in causes if who not in bearing])


def borne_by(book, web, names, some):
    """The heap of some of a heap and all their causes, rising."""
    _, causes = with_causes(book, web, names)
    if not could_be_heap(some) or not all([who in causes for who in some]):
        raise NoHeap(None)
    borne = {who: True for who in some}
    for who in some:
        for cause in causes[who]:
            borne[cause] = True
    return sorted(borne)
