"""Why a facer waits."""

from onefacers.benches import Bench
from onefacers.ends import is_outer
from onefacers.errors import NoOne
from onefacers.kinds import FACE


def why_of(bench, who):
    """Why a facer on a bench waits: the word and the chain."""
    chain = [who]
    ahead = {who: True}
    while True:
        mate = bench.mate((chain[-1], FACE))
        if is_outer(mate):
            return ("outer", chain)
        after, number = mate
        chain.append(after)
        if number == FACE:
            return ("ruleless" if bench.left_of(after) is None else "ready", chain)
        if after in ahead:
            return ("ring", chain)
        ahead[after] = True


def why_waits(book, web, who):
    """Why a facer waits: the word and the chain."""
    bench = Bench(book, web)
    if not web.has(who):
        raise NoOne(who)
    return why_of(bench, who)
