"""The ends and ties of one rule, and whether a rule of a kind with itself is even."""

from onefacers.ends import is_pair
from onefacers.kinds import FACE, is_whole
from onefacers.matching import matching, net_of


def _ends(kinds, left, right, made):
    """A dict that has each end of a rule as a key."""
    ends = {}
    for side, word in (("l", left), ("r", right)):
        for number in range(1, kinds.hands(word) + 1):
            ends[((), f"{side}{number}")] = True
    for place, word in enumerate(made):
        for number in range(FACE, kinds.hands(word) + 1):
            ends[((place,), number)] = True
    return ends


def _is_like_an_end(thing):
    """Whether a thing is made as the ends of rules are, so that it can be looked up."""
    if not is_pair(thing) or not isinstance(thing[0], tuple):
        return False
    who, number = thing
    if len(who) == 0:
        return isinstance(number, str)
    return len(who) == 1 and is_whole(who[0]) and is_whole(number)


def rule_mates(kinds, left, right, made, ties):
    """A dict from each end of the rule to the one to which it is tied; None if these are no such ties."""
    if not isinstance(ties, (list, tuple)):
        return None
    ends = _ends(kinds, left, right, made)
    mates = {}
    for tie in ties:
        if not is_pair(tie):
            return None
        for end, mate in (tie, tie[::-1]):
            if not _is_like_an_end(end) or end not in ends or end in mates:
                return None
            mates[end] = mate
    if len(mates) != len(ends):
        return None
    return mates


def is_even(kinds, word, made, mates):
    """Whether a rule of a kind with itself stays the same if left and right are exchanged."""
    net = net_of(kinds, [((place,), name) for place, name in enumerate(made)], mates)
    turn = {}
    for number in range(1, kinds.hands(word) + 1):
        turn[f"l{number}"] = f"r{number}"
        turn[f"r{number}"] = f"l{number}"
    return matching(net, net, turn) is not None
