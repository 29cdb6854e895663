"""The trail of an end: the meetings at whose joints its tie is joined."""

from onefacers.benches import Bench
from onefacers.ends import is_end
from onefacers.errors import NoEnd
from onefacers.heaps import do_heap


def trail(book, web, names, end):
    """The meetings at whose joints an end's tie is joined behind a heap, from this end on."""
    bench = Bench(book, web)
    do_heap(bench, names)
    if not is_end(end) or not bench.has_end(end):
        raise NoEnd(end)
    return bench.trail(end)
