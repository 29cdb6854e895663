"""Rules that keep: a meeting by one leaves a web without rings without rings."""

from onefacers.ends import is_outer, is_pair, mates_of
from onefacers.errors import NoRule, TooMany
from onefacers.kinds import FACE, is_whole
from onefacers.peeling import lots_of, put_in
from onefacers.turning import is_ring_in, ring_in

MOST_CHOICES = 4096


def _rule_of(book, one, other):
    rule = book.rule(one, other)
    if rule is None:
        raise NoRule((one, other))
    return rule


def _hands_by_lots(lots):
    """For each lot of a kind, in order, its hands."""
    rows = [[] for _ in range(max(lots, default=-1) + 1)]
    for number, lot in enumerate(lots, start=1):
        rows[lot].append(number)
    return rows


def _rows_of(book, made):
    """For each made one, for each lot of its kind, the hands out of which one is chosen."""
    return [_hands_by_lots(book.kinds().lots(word)) for word in made]


def _many(rows):
    many = 1
    for by_lots in rows:
        for hands in by_lots:
            many *= len(hands)
    return many


def _picks(lists):
    """All tuples of one out of each list."""
    picks = [()]
    for things in lists:
        picks = [pick + (thing,) for pick in picks for thing in things]
    return picks


def _check_few(book, rule):
    if _many(_rows_of(book, rule[2])) > MOST_CHOICES:
        raise TooMany(MOST_CHOICES)


def _net(book, rule):
    """The lots and mates of a rule's web, whose facers are its made ones, by (place,)."""
    _, _, made, ties = rule
    return (lots_of(book.kinds(), [((place,), word) for place, word in enumerate(made)]), mates_of(ties))


def _is_held(end, choice):
    """Whether an end isn't a hand, or is a chosen one."""
    who, number = end
    return is_outer(end) or number == FACE or number in choice[who[0]]


def _led_on(lots, mates, choice):
    """The OUTER ends that are led on by a choice."""
    stand = {end: mates[end] for end in mates if _is_held(end, choice) and _is_held(mates[end], choice)}
    pieces = {}
    for who in lots:
        put_in(lots, stand, who, pieces)
    groups = {}
    for end, mate in stand.items():
        if is_outer(end):
            # Two OUTER ends that are tied to each other are a group of their own.
            group = min(end, mate) if is_outer(mate) else pieces[mate[0]]
            groups.setdefault(group, []).append(end)
    return [end for group in groups.values() if len(group) > 1 for end in group]


def _outer_lot(book, rule, end):
    """The lot of an OUTER end, with its side's letter ahead: an l and an r are always unlike."""
    name = end[1]
    word = rule[0] if name[0] == "l" else rule[1]
    return (name[0], book.kinds().lots(word)[int(name[1:]) - 1])


def _of_one_lot(book, rule, ends):
    """Two of some OUTER ends that are of one lot, the lesser first, or None."""
    ahead = {}
    for end in sorted(ends):
        lot = _outer_lot(book, rule, end)
        if lot in ahead:
            return (ahead[lot], end)
        ahead[lot] = end
    return None


def _paper(book, rule):
    """Some paper that a rule doesn't keep, or None."""
    lots, mates = _net(book, rule)
    ring = ring_in(lots, mates)
    if ring is not None:
        return ("ring", ring)
    # No choice has to be looked at where all OUTER ends are of unlike lots.
    if _of_one_lot(book, rule, [end for end in mates if is_outer(end)]) is None:
        return None
    for choice in _picks([_picks(by_lots) for by_lots in _rows_of(book, rule[2])]):
        ends = _of_one_lot(book, rule, _led_on(lots, mates, choice))
        if ends is not None:
            return ("ends", choice) + ends
    return None


def choices(book, one, other):
    """How many choices the rule of two kinds has."""
    return _many(_rows_of(book, _rule_of(book, one, other)[2]))


def why_not(book, one, other):
    """Some paper that the rule of two kinds doesn't keep, or None."""
    rule = _rule_of(book, one, other)
    _check_few(book, rule)
    return _paper(book, rule)


def keeps(book, one, other):
    """Whether the rule of two kinds keeps."""
    return why_not(book, one, other) is None


def all_keep(book):
    """Whether each rule of a book keeps."""
    for rule in book.rules():
        _check_few(book, rule)
    return all([_paper(book, rule) is None for rule in book.rules()])


def _is_pick(lists, thing):
    """Whether a thing is a tuple of whole numbers, one out of each list."""
    if not isinstance(thing, tuple) or len(thing) != len(lists):
        return False
    return all([is_whole(part) and part in hands for part, hands in zip(thing, lists)])


def _is_choice(rows, thing):
    if not isinstance(thing, tuple) or len(thing) != len(rows):
        return False
    return all([_is_pick(by_lots, part) for part, by_lots in zip(thing, rows)])


def _is_outer_of(mates, thing):
    """Whether a thing is an OUTER end of a rule."""
    if not is_pair(thing) or not isinstance(thing[0], tuple) or not isinstance(thing[1], str):
        return False
    return is_outer(thing) and thing in mates


def _are_ends(book, rule, choice, pair):
    """Whether a choice and two OUTER ends are a paper that a rule doesn't keep."""
    lots, mates = _net(book, rule)
    if not _is_choice(_rows_of(book, rule[2]), choice) or not all([_is_outer_of(mates, end) for end in pair]):
        return False
    one, other = pair
    if one >= other or _outer_lot(book, rule, one) != _outer_lot(book, rule, other):
        return False
    led_on = _led_on(lots, mates, choice)
    return one in led_on and other in led_on


def is_why_not(book, one, other, thing):
    """Whether a thing is a paper that the rule of two kinds doesn't keep."""
    rule = _rule_of(book, one, other)
    if not isinstance(thing, tuple) or len(thing) == 0 or not isinstance(thing[0], str):
        return False
    if thing[0] == "ring" and len(thing) == 2:
        lots, mates = _net(book, rule)
        return is_ring_in(lots, mates, thing[1])
    return thing[0] == "ends" and len(thing) == 4 and _are_ends(book, rule, thing[1], thing[2:])
