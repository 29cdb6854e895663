"""Meetings that are ready, and what comes of one that is done."""

from onefacers.benches import Bench
from onefacers.errors import NoMeeting
from onefacers.kinds import is_who


def ready(book, web):
    """Tuples of left and right of those that are ready, rising."""
    return Bench(book, web).pairs()


def met(book, web, who):
    """The web behind the meeting of this WHO."""
    bench = Bench(book, web)
    if not is_who(who) or not bench.is_ready(who):
        raise NoMeeting(who)
    bench.meet(who)
    return bench.web()


def is_still(book, web):
    """Whether nothing is ready."""
    return len(ready(book, web)) == 0
