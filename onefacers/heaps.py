"""Heaps of meetings, rows of them, and the web behind a heap."""

from onefacers.benches import Bench
from onefacers.errors import NoCount, NoHeap, TooMany
from onefacers.kinds import is_who, is_whole

MOST_MEETINGS = 200


def check_limit(limit):
    """Refuses what is no limit."""
    if not is_whole(limit) or not 0 <= limit <= MOST_MEETINGS:
        raise NoCount("a limit is a whole number from 0 to 200")


def is_list_of_whos(thing):
    """Whether a thing is a list of WHOS."""
    return isinstance(thing, (list, tuple)) and all([is_who(who) for who in thing])


def could_be_heap(names):
    """Whether these are at most 200 unlike WHOS."""
    if not is_list_of_whos(names) or len(names) > MOST_MEETINGS:
        return False
    return len({who: True for who in names}) == len(names)


def worked_off(bench, names):
    """Does of the meetings all that can be done, each time the least: their row, and those that are left."""
    row = []
    left = list(names)
    while True:
        can_be_done = [who for who in left if bench.is_ready(who)]
        if len(can_be_done) == 0:
            return (row, left)
        who = min(can_be_done)
        bench.meet(who)
        row.append(who)
        left.remove(who)


def do_heap(bench, names):
    """Does a heap on a bench, which is that of its web still; THE row of it."""
    if not could_be_heap(names):
        raise NoHeap(None)
    row, left = worked_off(bench, names)
    if len(left) > 0:
        raise NoHeap(min(left))
    return row


def is_heap(book, web, names):
    """Whether these meetings can be done in some order."""
    bench = Bench(book, web)
    if not could_be_heap(names):
        return False
    _, left = worked_off(bench, names)
    return len(left) == 0


def is_row(book, web, names):
    """Whether these meetings can be done in this order."""
    bench = Bench(book, web)
    if not could_be_heap(names):
        return False
    for who in names:
        if not bench.is_ready(who):
            return False
        bench.meet(who)
    return True


def behind(book, web, names):
    """The web behind a heap."""
    bench = Bench(book, web)
    do_heap(bench, names)
    return bench.web()


def row_of(book, web, names):
    """THE row of a heap: each time the least that is ready is next."""
    return do_heap(Bench(book, web), names)


def do_all(bench, most):
    """Does on a bench each time the least that is ready, till nothing is: their row; None for more than most."""
    row = []
    pairs = bench.pairs()
    while len(pairs) > 0:
        if len(row) >= most:
            return None
        bench.meet(pairs[0][0])
        row.append(pairs[0][0])
        pairs = bench.pairs()
    return row


def whole(book, web, *, limit=MOST_MEETINGS):
    """The heap behind which nothing is ready, rising."""
    bench = Bench(book, web)
    check_limit(limit)
    row = do_all(bench, limit)
    if row is None:
        raise TooMany(limit)
    return sorted(row)
