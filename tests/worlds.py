"""Books and webs in words or at random, and meetings done in another way, by which the package is tested."""

import random

from onefacers.books import Book
from onefacers.booktexts import read_book
from onefacers.kinds import Kinds
from onefacers.samples import COUNTING
from onefacers.webs import Web
from onefacers.webtexts import who_of


FORK = {"era": (), "one": (0,)}
RULES = ["one era: era: l1 0:0", "era era::"]


def counts():
    """A book of numbers that are added, taken times, doubled and taken away."""
    return read_book(COUNTING)


def outer(name):
    return ((), name)


def end_in(word):
    """The end of a web that is written so: a.3:1, or :out."""
    head, _, tail = word.partition(":")
    return (who_of(head), int(tail)) if head else outer(tail)


def rule_end_in(word):
    """The end of a rule that is written so: 0:1, or l1."""
    place, colon, number = word.partition(":")
    return ((int(place),), int(number)) if colon else outer(word)


def web_in(kinds, facers, ties=""):
    """A web in words: "a add, b zero" and "a:0 b:0, a:1 :in"."""
    rows = [row.split() for row in facers.split(", ") if row]
    pairs = [row.split() for row in ties.split(", ") if row]
    return Web(kinds, [(who_of(who), word) for who, word in rows],
               [(end_in(one), end_in(other)) for one, other in pairs])


def rule_in(text):
    """A rule in words: "add succ: succ add: l1 1:1, l2 0:0", "add zero:: l1 l2"."""
    pair, made, ties = text.split(":", 2)
    left, right = pair.split()
    return (left, right, made.split(),
            [tuple(rule_end_in(word) for word in tie.split()) for tie in ties.split(", ") if tie])


def book_in(table, *rules):
    return Book(Kinds(table), [rule_in(text) for text in rules])


def whos(text):
    """WHOS in words."""
    return [who_of(word) for word in text.split()]


def fork():
    """A book and a web in which a, c and e are ready, and a.0 meets c.0 behind a and c."""
    book = book_in(FORK, *RULES)
    return book, web_in(book.kinds(), "a one, b era, c one, d era, e era, f era", "a:0 b:0, c:0 d:0, a:1 c:1, e:0 f:0")


def number_in(web_rows, tie_rows, letter, many, top):
    """Adds to rows the facers and ties of a number whose face is tied to the end that is written so."""
    names = [f"{letter}{'abcdefghijklmnopqrstuvwxyz'[at]}" for at in range(many + 1)]
    for at, name in enumerate(names):
        web_rows.append(f"{name} {'zero' if at == many else 'succ'}")
        tie_rows.append(f"{name}:0 {top if at == 0 else names[at - 1] + ':1'}")


def sum_web(word, one, other):
    """A web of two numbers that are added, or taken times, at the OUTER end "out"."""
    facers, ties = [f"a {word}"], ["a:2 :out"]
    number_in(facers, ties, "m", one, "a:0")
    number_in(facers, ties, "n", other, "a:1")
    return web_in(counts().kinds(), ", ".join(facers), ", ".join(ties))


def endless():
    """A book and a web of two that never come to rest: they become two others that are tied so, too."""
    book = book_in({"ping": ()}, "ping ping: ping ping: 0:0 1:0")
    return book, web_in(book.kinds(), "a ping, b ping", "a:0 b:0")


def many_pairs(many):
    """A book and a web of so many pairs that go, each with nothing that comes."""
    book = book_in({"ping": ()}, "ping ping::")
    names = [f"{one}{other}" for one in "abcdefghijklmnop" for other in "abcdefghijklmnop"][:many]
    facers = [f"{name}{side} ping" for name in names for side in "xy"]
    return book, web_in(book.kinds(), ", ".join(facers), ", ".join(f"{name}x:0 {name}y:0" for name in names))


def facing(row):
    """Ties at random of ends, two at a time."""
    return list(zip(row[::2], row[1::2]))


def ends_of(kinds, made):
    return [(who, number) for who, word in made for number in range(kinds.hands(word) + 1)]


def hand_ends(kinds, left, right):
    return ([outer(f"l{number}") for number in range(1, kinds.hands(left) + 1)]
            + [outer(f"r{number}") for number in range(1, kinds.hands(right) + 1)])


def even_rule(source, kinds, word, most):
    """A rule of a kind with itself: made ones stand in twos that are exchanged with l and r."""
    half = [source.choice(kinds.words()) for _ in range(source.randrange(most // 2 + 1))]
    made = half + half

    def turned(end):
        place, number = end
        if place == ():
            return outer(("r" if number[0] == "l" else "l") + number[1:])
        return (((place[0] + len(half)) % len(made),), number)
    free = ends_of(kinds, [((place,), name) for place, name in enumerate(made)]) + hand_ends(kinds, word, word)
    ties = []
    while free:
        one, other = source.sample(free, 2)
        row = [(one, other)] if other == turned(one) else [(one, other), (turned(one), turned(other))]
        for tie in row:
            ties.append(tie)
            free.remove(tie[0])
            free.remove(tie[1])
    return (word, word, made, ties)


def plain_rule(source, kinds, left, right, most):
    made = [source.choice(kinds.words()) for _ in range(source.randrange(most + 1))]
    ends = ends_of(kinds, [((place,), name) for place, name in enumerate(made)]) + hand_ends(kinds, left, right)
    odd = [word for word in kinds.words() if kinds.hands(word) % 2 == 0]
    if len(ends) % 2 == 1:
        if not odd:
            return None
        made.append(source.choice(odd))
        ends += ends_of(kinds, [((len(made) - 1,), made[-1])])
    source.shuffle(ends)
    return (left, right, made, facing(ends))


def random_rules(source, kinds, most):
    """Rules of most pairs of kinds."""
    rules = []
    for at, one in enumerate(kinds.words()):
        for other in kinds.words()[at:]:
            pair = [one, other]
            source.shuffle(pair)
            rule = even_rule(source, kinds, one, most) if one == other else plain_rule(source, kinds, *pair, most)
            if rule is not None and source.random() < 0.9:
                rules.append(rule)
    return rules


def random_book(source, most=3):
    """Three kinds of some hands, and rules of most pairs of them."""
    table = {}
    for word in ("p", "q", "r"):
        table[word] = (0,) * source.randrange(4)
    kinds = Kinds(table)
    return Book(kinds, random_rules(source, kinds, most))


def random_web(source, kinds, many):
    """So many facers by names in no order, some of them with places, and some OUTER ends; faces often face."""
    names = [("a",), ("b", 3), ("b", 10), ("b", 9), ("c", 0, 0), ("c", 0, 1), ("d",), ("ab",)]
    source.shuffle(names)
    facers = [(who, source.choice(kinds.words())) for who in names[:many]]
    ends = ends_of(kinds, facers)
    faces = [end for end in ends if end[1] == 0]
    source.shuffle(faces)
    ties = [tie for tie in facing(faces) if source.random() < 0.7]
    taken = [end for tie in ties for end in tie]
    ends = [end for end in ends if end not in taken]
    outers = source.randrange(4)
    outers += (len(ends) + outers) % 2
    ends += [outer("outer" + "abcdef"[number]) for number in range(outers)]
    source.shuffle(ends)
    return Web(kinds, facers, ties + facing(ends))


def random_world(seed, many=5, most=3):
    """A book and a web."""
    source = random.Random(seed)
    book = random_book(source, most)
    return book, random_web(source, book.kinds(), source.randrange(2, many + 1))


class Unfolded:
    """All ties that there ever were, and the joints between them; where a tie leads is found by walking.

    An OUTER end of a rule is ("rule", the meeting, its NAME).
    """

    def __init__(self, book, web, row=()):
        self.book, self.outers = book, web.outers()
        self.words = dict(web.facers())
        self.there = dict(web.facers())
        self.ties = {}
        self.joints = {}
        for one, other in web.ties():
            self.ties[one], self.ties[other] = other, one
        for who in row:
            self.do(who)

    def walk(self, end):
        """The end to which an end's tie leads, and the meetings at whose joints it does."""
        trail = []
        end = self.ties[end]
        while end in self.joints:
            end, meeting = self.joints[end]
            trail.append(meeting)
            end = self.ties[end]
        return end, trail

    def facing(self, who):
        """The facer to whose face this one's is tied, or None."""
        end, _ = self.walk((who, 0))
        return end[0] if end[1] == 0 else None

    def rule(self, one, other):
        for rule in self.book.rules():
            if sorted(rule[:2]) == sorted([self.words[one], self.words[other]]):
                return rule
        return None

    def pairs(self):
        """Left and right of those that are ready."""
        found = []
        for one in self.there:
            other = self.facing(one)
            rule = None if other is None else self.rule(one, other)
            if rule is not None and self.words[one] == rule[0] and (rule[0] != rule[1] or one < other):
                found.append((one, other))
        return sorted(found)

    def lefts(self):
        return [left for left, _ in self.pairs()]

    def do(self, left):
        right = dict(self.pairs())[left]
        _, _, made, ties = self.rule(left, right)

        def placed(end):
            return ("rule", left, end[1]) if end[0] == () else (left + end[0], end[1])
        for one, other in ties:
            self.ties[placed(one)], self.ties[placed(other)] = placed(other), placed(one)
        for side, who in (("l", left), ("r", right)):
            for number in range(1, self.book.kinds().hands(self.words[who]) + 1):
                inner = ("rule", left, f"{side}{number}")
                self.joints[(who, number)], self.joints[inner] = (inner, left), ((who, number), left)
            del self.there[who]
        for place, word in enumerate(made):
            self.words[left + (place,)] = self.there[left + (place,)] = word

    def ends(self):
        return ends_of(self.book.kinds(), self.there.items()) + [outer(name) for name in self.outers]

    def web(self):
        ties = [(end, self.walk(end)[0]) for end in self.ends()]
        return Web(self.book.kinds(), list(self.there.items()), [(one, other) for one, other in ties if one < other])


def heaps_of(book, web, most=60):
    """A dict from heaps, as frozensets, least ones first, to Unfoldeds; and whether these are all."""
    found = {frozenset(): Unfolded(book, web)}
    rows = {frozenset(): ()}
    todo = [frozenset()]
    while todo:
        heap = todo.pop(0)
        for who in found[heap].lefts():
            more = heap | {who}
            if more not in found:
                if len(found) == most:
                    return found, False
                rows[more] = rows[heap] + (who,)
                found[more] = Unfolded(book, web, rows[more])
                todo.append(more)
    return found, True
