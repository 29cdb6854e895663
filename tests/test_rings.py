"""Point 23: LOTS of ends, RINGS. Points 4, 14 and 24, as far as rings go."""

import random
import unittest

from onefacers.books import Book
from onefacers.errors import NoEnd, TooMany
from onefacers.keeping import all_keep, keeps
from onefacers.kinds import Kinds
from onefacers.meetings import met, ready
from onefacers.plans import plan_of
from onefacers.rings import MOST_LOOKED, is_ring, lot_of, ring_of
from onefacers.webs import Web
from onefacers.webtexts import web_text
from onefacers.whys import why_waits
from tests.rounds import lotted_kinds, lotted_web, lotted_world, rings_of
from tests.things import odd_things
from tests.worlds import ends_of, facing, outer, random_rules, sum_web, web_in

A, B, C = ("a",), ("b",), ("c",)
TABLE = {"both": (0, 0), "each": (0, 1), "era": (), "four": (0, 0, 1, 0), "one": (0,)}


def web_of(facers, ties=""):
    return web_in(Kinds(TABLE), facers, ties)


def circle(many, cut=False):
    """So many, each one's face at the next one's hand; cut where the last one's isn't at the first one's."""
    names = [("a", number // 12, number % 12) for number in range(many)]
    ties = [((one, 0), (other, 1)) for one, other in zip(names, names[1:])]
    ends = [((names[-1], 0), (names[0], 1))]
    if cut:
        ends = [((names[-1], 0), outer("out")), ((names[0], 1), outer("in"))]
    return Web(Kinds(TABLE), [(who, "one") for who in names], ties + ends), [(who, 1, 0) for who in names]


def on(ring):
    """All rings that are the same, turned on and turned about."""
    about = [(who, out, into) for who, into, out in reversed(ring)]
    return [row[at:] + row[:at] for row in (ring, about) for at in range(len(ring))]


class Lots(unittest.TestCase):
    def test_of_hands_and_of_the_face(self):
        web = web_of("a four, b.3 era", "a:0 b.3:0, a:1 a:3, a:2 :p, a:4 :q")
        self.assertEqual([lot_of(web, (A, number)) for number in range(5)], [-1, 0, 0, 1, 0])
        self.assertEqual(lot_of(web=web, end=(("b", 3), 0)), -1)

    def test_no_end(self):
        web = web_of("a four, b.1 era", "a:0 b.1:0, a:1 a:3, a:2 :p, a:4 :q")
        for end in ((A, 5), (A, -1), (A, 10 ** 29), (("b", 1), 1), (B, 0), (("b", 0), 0), (("b", 1, 0), 0), outer("p"),
                    outer("z"),
                    (A, True), (A, False), (("b", True), 0), [A, 1], (A, 1, 0), (A,), A, "a:1", (["a"], 1), (A, "1"),
                    ((), 0), *odd_things()):
            with self.assertRaises(NoEnd) as caught:
                lot_of(web, end)
            self.assertIs(caught.exception.end, end)


class Judged(unittest.TestCase):
    def rings(self, web, *rings):
        """These are rings, turned on and turned about, too."""
        for ring in rings:
            for row in on(ring):
                self.assertIs(is_ring(web, row), True)
                self.assertIs(is_ring(web, tuple(row)), True)
        self.assertEqual(sorted(rings_of(web)), sorted(row for ring in rings for row in on(ring)))
        told = ring_of(web)
        if rings:
            self.assertIsInstance(told, list)
            self.assertIn(told, [row for ring in rings for row in on(ring)])
            self.assertIsNone(plan_of(web))
        else:
            self.assertIsNone(told)
            self.assertIsNotNone(plan_of(web))

    def test_no_rings(self):
        self.rings(web_of(""))
        self.rings(web_of("", ":p :q"))
        self.rings(web_of("a one, b one", "a:0 b:0, a:1 :p, b:1 :q"))
        self.rings(sum_web("add", 2, 3))

    def test_of_one_facer(self):
        # Its two ends of one lot, of unlike lots, its face and a hand.
        self.rings(web_of("a both", "a:0 :p, a:1 a:2"))
        self.rings(web_of("a each", "a:0 :p, a:1 a:2"), [(A, 1, 2)])
        self.rings(web_of("a one", "a:0 a:1"), [(A, 1, 0)])
        self.rings(web_of("a both, b both", "a:0 a:1, a:2 b:2, b:1 b:0"), [(A, 0, 1)], [(B, 1, 0)])

    def test_of_two(self):
        self.rings(web_of("a one, b one", "a:0 b:1, a:1 b:0"), [(A, 1, 0), (B, 1, 0)])
        self.rings(web_of("a one, b one", "a:0 b:0, a:1 b:1"), [(A, 1, 0), (B, 0, 1)])
        self.rings(web_of("a both, b each", "a:1 b:1, a:2 b:2, a:0 :p, b:0 :q"))
        self.rings(web_of("a both, b each", "a:1 b:1, a:2 b:2, a:0 b:0"),
                   [(A, 1, 0), (B, 0, 1)], [(A, 2, 0), (B, 0, 2)])
        self.rings(web_of("a each, b each", "a:1 b:1, a:2 b:2, a:0 :p, b:0 :q"), [(A, 1, 2), (B, 2, 1)])

    def test_of_three(self):
        self.rings(web_of("a each, b one, c both", "a:1 b:0, b:1 c:2, c:0 a:2, a:0 :p, c:1 :q"),
                   [(A, 2, 1), (B, 0, 1), (C, 2, 0)])
        self.rings(web_of("a each, b one, c both", "a:1 b:0, b:1 c:2, c:1 a:2, a:0 :p, c:0 :q"))

    def test_a_ring_of_which_something_is_not_so(self):
        web = web_of("a each, b one, c both", "a:1 b:0, b:1 c:2, c:0 a:2, a:0 :p, c:1 :q")
        ring = [(A, 2, 1), (B, 0, 1), (C, 2, 0)]
        self.assertIs(is_ring(web, ring), True)
        for row in (ring[:2], ring[1:], ring[:1], ring[::-1], [ring[1], ring[0], ring[2]], ring + ring,
                    [*ring, ring[0]], [],
                    [(A, 1, 2), *ring[1:]], [(A, 2, 2), *ring[1:]], [(A, 2, 0), *ring[1:]], [*ring[:2], (C, 2, 1)],
                    [*ring[:2], (C, 1, 0)], [(("d",), 2, 1), *ring[1:]], [(A, 2, 3), *ring[1:]],
                    [(A, -1, 1), *ring[1:]],
                    [(A, 2, 1, 0), *ring[1:]], [(A, 2), *ring[1:]], [list(ring[0]), *ring[1:]], [["a"], *ring[1:]],
                    [(["a"], 2, 1), *ring[1:]], [("a", 2, 1), *ring[1:]], [((), 2, 1), *ring[1:]], [(B, 0, 1)],
                    [(A, 2, 1), (A, 2, 1)],
                    [(A, 2, 10 ** 29), *ring[1:]], [(A, "2", 1), *ring[1:]], {0: ring[0]}, set(ring), iter(ring)):
            self.assertIs(is_ring(web, row), False)
        self.assertIs(is_ring(web, []), False)
        self.assertIs(is_ring(web, ()), False)

    def test_truths_are_no_numbers(self):
        web = web_of("a.1 one, a.0 one", "a.1:0 a.0:1, a.1:1 a.0:0")
        ring = [(("a", 1), 1, 0), (("a", 0), 1, 0)]
        self.assertIs(is_ring(web, ring), True)
        for part in ((("a", True), 1, 0), (("a", 1), True, 0), (("a", 1), 1, False)):
            self.assertIs(is_ring(web, [part, ring[1]]), False)
            self.assertIs(is_ring(web, [ring[1], part]), False)
        self.assertIs(is_ring(web, [ring[0], (("a", False), 1, 0)]), False)
        loop = web_of("a one", "a:0 a:1")
        for part in ((A, True, 0), (A, 1, False), (A, True, False), (A, False, True)):
            self.assertIs(is_ring(loop, [part]), False)
        self.assertIs(is_ring(loop, [(A, 0, 1)]), True)

    def test_of_anything(self):
        web = web_of("a one, b one", "a:0 b:1, a:1 b:0")
        ring = [(A, 1, 0), (B, 1, 0)]
        self.assertIs(is_ring(web=web, thing=ring), True)
        for thing in odd_things():
            for row in (thing, [thing], (thing,), [*ring, thing], [thing, ring[1]], [(thing, 1, 0), ring[1]],
                        [(thing, 1, 0)], [(A, thing, thing), ring[1]], [(A, thing, thing)]):
                self.assertIs(is_ring(web, row), False)
            if thing.__class__ is not int or thing not in (0, 1):
                self.assertIs(is_ring(web, [(A, 1, thing), ring[1]]), False)
                self.assertIs(is_ring(web, [(A, thing, 0), ring[1]]), False)

    def test_where_no_facer_of_a_ring_may_be_there_twice(self):
        # Both loops lead through a, by unlike hands of its.
        web = web_of("a four, b one, c one", "a:1 b:0, b:1 a:3, a:2 c:0, c:1 a:4, a:0 :p")
        self.assertIs(is_ring(web, [(A, 3, 1), (B, 0, 1)]), True)
        self.assertIs(is_ring(web, [(A, 4, 2), (C, 0, 1)]), False)
        self.assertIs(is_ring(web, [(A, 3, 2), (C, 0, 1), (A, 4, 1), (B, 0, 1)]), False)


class Limits(unittest.TestCase):
    def test_twenty_four_and_twenty_five(self):
        self.assertEqual(MOST_LOOKED, 24)
        web, ring = circle(24)
        self.assertIn(ring_of(web), on(ring))
        self.assertIsNone(ring_of(web=circle(24, cut=True)[0]))
        for many in (25, 60):
            for cut in (False, True):
                web, ring = circle(many, cut)
                self.assertIs(is_ring(web, ring), not cut)
                self.assertIs(is_ring(web, tuple(ring)), not cut)
                with self.assertRaises(TooMany) as caught:
                    ring_of(web)
                self.assertEqual(caught.exception.limit, 24)

    def test_many_ties(self):
        for seed, lots in enumerate(((0,) * 6, (0, 1, 2, 3, 4, 5), (0, 0, 0, 1, 1, 1), (0, 1), (0, 0))):
            source = random.Random(seed)
            kinds = Kinds({"p": lots})
            facers = [(("a", number // 12, number % 12), "p") for number in range(24)]
            ends = ends_of(kinds, facers)
            source.shuffle(ends)
            web = Web(kinds, facers, facing(ends))
            self.assertIs(is_ring(web, ring_of(web)), True)


class AgainstTrying(unittest.TestCase):
    def test_all_rings(self):
        seen = {}
        for seed in range(400):
            web = lotted_world(seed, 6)
            rings = rings_of(web)
            for ring in rings:
                self.assertIs(is_ring(web, ring), True)
            told = ring_of(web)
            if told is None:
                self.assertEqual(rings, [])
            else:
                self.assertIn(told, rings)
            many = 0 if told is None else len(told)
            seen[many] = seen.get(many, 0) + 1
        self.assertEqual([many for many in range(4) if seen.get(many, 0) < 5], [])

    def test_what_is_no_ring(self):
        seen = {True: 0, False: 0}
        for seed in range(250):
            web = lotted_world(seed, 5)
            source = random.Random(seed)
            rings = rings_of(web)
            ends = ends_of(web.kinds(), web.facers())
            for _ in range(15):
                row = list(source.choice(rings)) if rings and source.random() < 0.7 else []
                (who, into), (_, out) = source.choice(ends), source.choice(ends)
                if row and source.random() < 0.7:
                    at = source.randrange(len(row))
                    row[at] = source.choice([(row[at][0], into, out), (who, into, out), (row[at][0], row[at][1], out),
                                             (row[at][0], row[at][2], row[at][1]), row[at]])
                else:
                    row.append((who, into, out))
                self.assertIs(is_ring(web, row), row in rings)
                seen[row in rings] += 1
        self.assertGreater(min(seen.values()), 300)


class Waiting(unittest.TestCase):
    def test_facers_that_wait_for_one_another_in_a_ring_are_a_ring(self):
        seen = 0
        for seed in range(600):
            source = random.Random(seed)
            kinds = lotted_kinds(source, 4)
            book = Book(kinds, random_rules(source, kinds, 2))
            web = lotted_web(source, kinds, source.randrange(1, 7))
            for who, _ in web.facers():
                word, chain = why_waits(book, web, who)
                if word == "ring":
                    # Each one's face is at the next one's hand, from where the last one stands ahead.
                    ring = chain[chain.index(chain[-1]):-1]
                    row = [(one, web.mate((ring[at - 1], 0))[1], 0) for at, one in enumerate(ring)]
                    self.assertIs(is_ring(web, row), True)
                    self.assertIsNotNone(ring_of(web))
                    seen += len(ring) > 1
        self.assertGreater(seen, 40)


def kept_meetings(seed):
    """Webs without rings, and those that come of them by one meeting whose rule keeps."""
    source = random.Random(seed)
    kinds = lotted_kinds(source, 4)
    book = Book(kinds, random_rules(source, kinds, 3))
    for _ in range(12):
        web = lotted_web(source, kinds, source.randrange(2, 6))
        if ring_of(web) is None:
            for left, right in ready(book, web):
                if keeps(book, web.kind(left), web.kind(right)):
                    yield book, web, left


class Keeping(unittest.TestCase):
    """Point 4, RINGS."""

    def test_a_meeting_by_a_rule_that_keeps(self):
        seen = 0
        for seed in range(400):
            for book, web, left in kept_meetings(seed):
                after = met(book, web, left)
                self.assertEqual(rings_of(after), [])
                seen += len(after) > 1
        self.assertGreater(seen, 60)

    def test_nobody_ever_waits_in_a_ring(self):
        seen = 0
        for seed in range(1500):
            source = random.Random(seed)
            kinds = lotted_kinds(source, 3)
            rules = random_rules(source, kinds, 3)
            book = Book(kinds, [rule for rule in rules if keeps(Book(kinds, [rule]), *rule[:2])])
            self.assertIs(all_keep(book), True)
            web = lotted_web(source, kinds, source.randrange(2, 6))
            if ring_of(web) is not None:
                continue
            for _ in range(8):
                self.assertNotIn("ring", [why_waits(book, web, who)[0] for who, _ in web.facers()])
                self.assertTrue(len(web) > 24 or ring_of(web) is None)
                lefts = [left for left, _ in ready(book, web)]
                if not lefts:
                    break
                web = met(book, web, source.choice(lefts))
                seen += 1
        self.assertGreater(seen, 60)


class Kept(unittest.TestCase):
    def test_what_is_told_may_be_changed(self):
        web = web_of("a one, b one", "a:0 b:1, a:1 b:0")
        text = web_text(web)
        ring = ring_of(web)
        again = list(ring)
        ring.clear()
        self.assertEqual(ring_of(web), again)
        self.assertIs(is_ring(web, again), True)
        self.assertEqual(len(again), 2)
        self.assertEqual(web_text(web), text)


if __name__ == "__main__":
    unittest.main()
