"""Facers that may be next in a plan, one behind another.

What is looked at is told by two dicts: lots, from each facer to the lots of its ends, by their
numbers, and mates, from each end that is tied to its mate. The facers may have any names. Of
those that are there a dict leads each one to the name of its piece: those that hang together.
"""

FACE_LOT = -1


def lots_of(kinds, facers):
    """A dict from each facer to the lots of its ends; facers are tuples of a name and a kind's NAME."""
    return {who: (FACE_LOT,) + kinds.lots(word) for who, word in facers}


def mates_at(lots, mates, who):
    """The mates of a facer's ends that are tied."""
    ends = [(who, number) for number in range(len(lots[who]))]
    return [mates[end] for end in ends if end in mates]


def put_in(lots, mates, who, pieces):
    """Puts a facer to those that are there: it makes one piece of all to which it is tied."""
    near = {pieces[mate[0]]: True for mate in mates_at(lots, mates, who) if mate[0] in pieces}
    pieces[who] = who
    for other in list(pieces):
        if pieces[other] in near:
            pieces[other] = who


def may_be_next(lots, mates, who, pieces):
    """Whether a facer may be next in a plan, where the pieces are those without it."""
    held = {}
    for number, lot in enumerate(lots[who]):
        if (who, number) not in mates:
            continue
        goal, far = mates[(who, number)]
        if goal == who:
            if lots[who][far] != lot:
                return False
        elif goal in pieces and held.setdefault(pieces[goal], lot) != lot:
            return False
    return True


def peeled(lots, mates, whos):
    """Of some facers those that may be next, one behind another, and those that are left where none may be."""
    plan = []
    left = list(whos)
    many = -1
    # Whichever may be next never stands in the way of another one, so each is taken at once.
    while len(plan) > many:
        many = len(plan)
        for who in list(left):
            rest = [other for other in left if other != who]
            pieces = {}
            for other in rest:
                put_in(lots, mates, other, pieces)
            if may_be_next(lots, mates, who, pieces):
                plan.append(who)
                left = rest
    return (plan, left)
