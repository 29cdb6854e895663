"""Books: of two kinds, at most one rule."""

from onefacers.ends import ties_of
from onefacers.errors import NoBook, NoKind
from onefacers.kinds import Kinds
from onefacers.rules import is_even, rule_mates

MOST_MADE = 12


def _pair(one, other):
    """Two kinds' NAMES, whichever is told first."""
    return (min(one, other), max(one, other))


def _is_made(kinds, thing):
    """Whether a thing is a list of at most twelve kinds' NAMES."""
    if not isinstance(thing, (list, tuple)) or len(thing) > MOST_MADE:
        return False
    return all([kinds.has(word) for word in thing])


def _told_rules(kinds, rules):
    """A dict from each pair of kinds to its rule, as it is told."""
    if not isinstance(rules, (list, tuple)):
        raise NoBook("rules", None)
    told = {}
    for number, rule in enumerate(rules):
        if not isinstance(rule, tuple) or len(rule) != 4:
            raise NoBook("rule", number)
        left, right, made, ties = rule
        if not kinds.has(left) or not kinds.has(right):
            raise NoBook("pair", number)
        if _pair(left, right) in told:
            raise NoBook("again", number)
        if not _is_made(kinds, made):
            raise NoBook("made", number)
        mates = rule_mates(kinds, left, right, made, ties)
        if mates is None:
            raise NoBook("ties", number)
        if left == right and not is_even(kinds, left, made, mates):
            raise NoBook("even", number)
        told[_pair(left, right)] = (left, right, tuple(made), tuple(ties_of(mates)))
    return told


class Book:
    """Kinds, and rules of two of them."""

    def __init__(self, kinds, rules=()):
        if not isinstance(kinds, Kinds):
            raise NoBook("kinds", None)
        self._kinds = kinds
        self._rules = _told_rules(kinds, rules)

    def kinds(self):
        """The Kinds of its rules."""
        return self._kinds

    def rules(self):
        """The rules as they are told, rising."""
        return sorted(self._rules.values())

    def rule(self, one, other):
        """The rule of two kinds, whichever it tells first, or None."""
        for word in (one, other):
            if not self._kinds.has(word):
                raise NoKind(word)
        return self._rules.get(_pair(one, other))

    def __eq__(self, other):
        return isinstance(other, Book) and self._kinds == other._kinds and self._rules == other._rules

    def __len__(self):
        return len(self._rules)
