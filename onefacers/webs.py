"""Webs: facers, each of a kind, and the ties between their ends."""

from onefacers.ends import is_end, is_outer, is_pair, ties_of
from onefacers.errors import NoEnd, NoOne, NoWeb
from onefacers.kinds import FACE, Kinds, is_who


def _put_apart(tree, who):
    """Puts a WHO into the tree; False where it begins one there, or one there begins it."""
    node = tree
    is_fresh = len(tree) == 0
    for part in who:
        if part not in node:
            # A node without branches that stood there is the end of another WHO.
            if len(node) == 0 and not is_fresh:
                return False
            node[part] = {}
            is_fresh = True
        node = node[part]
    return is_fresh


def _told_facers(kinds, facers):
    """A dict from each WHO to its kind's NAME, rising."""
    if not isinstance(facers, (list, tuple)):
        raise NoWeb("facers", None)
    told = {}
    tree = {}
    for number, facer in enumerate(facers):
        if not is_pair(facer):
            raise NoWeb("facer", number)
        who, word = facer
        if not is_who(who):
            raise NoWeb("who", number)
        if not _put_apart(tree, who):
            raise NoWeb("again", who)
        if not kinds.has(word):
            raise NoWeb("kind", who)
        told[who] = word
    return {who: told[who] for who in sorted(told)}


def _is_end_there(kinds, facers, thing):
    """Whether a thing is an OUTER end, or an end of one of these facers."""
    if not is_end(thing):
        return False
    who, number = thing
    if is_outer(thing):
        return True
    return who in facers and FACE <= number <= kinds.hands(facers[who])


def _told_mates(kinds, facers, ties):
    """A dict from each end in the ties to the one to which it is tied."""
    if not isinstance(ties, (list, tuple)):
        raise NoWeb("ties", None)
    mates = {}
    for number, tie in enumerate(ties):
        if not is_pair(tie):
            raise NoWeb("tie", number)
        for end, mate in (tie, tie[::-1]):
            if not _is_end_there(kinds, facers, end):
                raise NoWeb("end", number)
            if end in mates:
                raise NoWeb("twice", end)
            mates[end] = mate
    return mates


def _check_tied(kinds, facers, mates):
    # The facers are rising, so the first end that is found is the least one.
    for who, word in facers.items():
        for number in range(FACE, kinds.hands(word) + 1):
            if (who, number) not in mates:
                raise NoWeb("untied", (who, number))


class Web:
    """Facers by unlike WHOS, each end of them in just one tie, and OUTER ends."""

    def __init__(self, kinds, facers=(), ties=()):
        if not isinstance(kinds, Kinds):
            raise NoWeb("kinds", None)
        self._kinds = kinds
        self._facers = _told_facers(kinds, facers)
        self._mates = _told_mates(kinds, self._facers, ties)
        _check_tied(kinds, self._facers, self._mates)

    def kinds(self):
        """The Kinds of its facers."""
        return self._kinds

    def facers(self):
        """Tuples of each facer's WHO and its kind's NAME, rising."""
        return list(self._facers.items())

    def ties(self):
        """The ties, rising, lesser ends first."""
        return ties_of(self._mates)

    def outers(self):
        """The NAMES of its OUTER ends, rising."""
        return sorted([end[1] for end in self._mates if is_outer(end)])

    def has(self, thing):
        """Whether a thing is a facer's WHO."""
        return is_who(thing) and thing in self._facers

    def kind(self, who):
        """The NAME of a facer's kind."""
        if not self.has(who):
            raise NoOne(who)
        return self._facers[who]

    def mate(self, end):
        """The end to which an end is tied."""
        if not is_end(end) or end not in self._mates:
            raise NoEnd(end)
        return self._mates[end]

    def __eq__(self, other):
        return (isinstance(other, Web) and self._kinds == other._kinds
                and self._facers == other._facers and self._mates == other._mates)

    def __len__(self):
        return len(self._facers)
