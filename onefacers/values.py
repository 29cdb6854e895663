"""Values: the kinds that hang at an end, and what they come to."""

from onefacers.benches import Bench
from onefacers.ends import is_outer
from onefacers.errors import NoEnd, TooMany
from onefacers.heaps import MOST_MEETINGS, check_limit
from onefacers.kinds import FACE, is_name
from onefacers.whys import why_of


def _parts(held, name):
    """The parts of the value at an OUTER end of a web or a bench: texts, and ends where it is open.

    For each `?` stands the end to which the tie leads.
    """
    parts = []
    todo = [((), name)]
    while len(todo) > 0:
        part = todo.pop()
        if isinstance(part, str):
            parts.append(part)
            continue
        mate = held.mate(part)
        who, number = mate
        if number != FACE:
            parts.append(mate)
            continue
        word = held.kind(who)
        parts.append(word)
        hands = held.kinds().hands(word)
        if hands > 0:
            # The last one is the first to be taken again.
            todo.append(")")
            for hand in range(hands, 0, -1):
                todo.extend([(who, hand), "," if hand > 1 else "("])
    return parts


def _text(parts):
    return "".join([part if isinstance(part, str) else "?" for part in parts])


def _check_outer(web, name):
    if not is_name(name) or name not in web.outers():
        raise NoEnd(name)


def value_at(web, name):
    """The value at an OUTER end."""
    _check_outer(web, name)
    return _text(_parts(web, name))


def _next_meeting(bench, parts):
    """A meeting that stands in the way of an open place of a value, or None."""
    for part in parts:
        if not isinstance(part, str) and not is_outer(part):
            word, chain = why_of(bench, part[0])
            if word == "ready":
                return bench.left_of(chain[-1])
    return None


def come_to(book, web, name, *, limit=MOST_MEETINGS):
    """The value come to at an OUTER end, and the heap behind which it is there, rising."""
    bench = Bench(book, web)
    _check_outer(web, name)
    check_limit(limit)
    done = []
    parts = _parts(bench, name)
    who = _next_meeting(bench, parts)
    while who is not None:
        if len(done) == limit:
            raise TooMany(limit)
        bench.meet(who)
        done.append(who)
        parts = _parts(bench, name)
        who = _next_meeting(bench, parts)
    return (_text(parts), sorted(done))
