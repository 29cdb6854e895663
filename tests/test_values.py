"""Point 20: VALUES, and the value COME TO."""

import random
import unittest

from onefacers.errors import NoCount, NoEnd, TooMany, Unlike
from onefacers.heaps import behind, is_heap, row_of, whole
from onefacers.kinds import Kinds
from onefacers.meetings import ready
from onefacers.values import come_to, value_at
from onefacers.webs import Web
from onefacers.webtexts import web_text
from tests.things import Touchy, no_limits, odd_things, some_kinds
from tests.worlds import Unfolded, book_in, counts, heaps_of, random_world, sum_web, web_in, whos

TABLE = {"dup": (0, 0), "era": (), "one": (0,), "tri": (0, 0, 0)}
RULES = ["one era: era: l1 0:0", "era era::"]


def number(many):
    return "succ(" * many + "zero" + ")" * many


def value(other, end):
    """The value at an end of an Unfolded."""
    who, place = other.walk(end)[0]
    if place != 0:
        return "?"
    word = other.words[who]
    hands = [value(other, (who, hand)) for hand in range(1, other.book.kinds().hands(word) + 1)]
    return f"{word}({','.join(hands)})" if hands else word


def open_hands(other, end):
    """The hands to which ties lead at the `?` of a value."""
    who, place = other.walk(end)[0]
    if place != 0:
        return [] if who == () else [(who, place)]
    hands = range(1, other.book.kinds().hands(other.words[who]) + 1)
    return [far for hand in hands for far in open_hands(other, (who, hand))]


def at_the_chains_end(other, who):
    """The left one of the two at the end of a facer's chain, if they are ready."""
    chain = [who]
    while True:
        end, place = other.walk((chain[-1], 0))[0]
        if end == () or (place != 0 and end in chain):
            return None
        if place == 0:
            for pair in other.pairs():
                if end in pair:
                    return pair[0]
            return None
        chain.append(end)


def come_to_by(book, web, name, source, most):
    """The value come to and its heap, in some order; None for more than most."""
    other, done = Unfolded(book, web), []
    while True:
        lefts = [at_the_chains_end(other, who) for who, _ in open_hands(other, ((), name))]
        lefts = [left for left in lefts if left is not None]
        if not lefts:
            return value(other, ((), name)), sorted(done)
        if len(done) == most:
            return None
        done.append(source.choice(lefts))
        other.do(done[-1])


class Values(unittest.TestCase):
    def values(self, facers, ties, **told):
        web = web_in(Kinds(TABLE), facers, ties)
        self.assertEqual({name: value_at(web, name) for name in web.outers()}, told)

    def test_open(self):
        self.values("", ":p :q", p="?", q="?")
        self.values("a one, b one", "a:1 :p, a:0 b:0, b:1 :q", p="?", q="?")
        self.values("a dup", "a:1 :p, a:2 :q, a:0 :r", p="?", q="?", r="dup(?,?)")

    def test_kinds_without_hands(self):
        self.values("a era, b era", "a:0 :p, b:0 :q", p="era", q="era")

    def test_hands_in_order(self):
        self.values("a tri, b era, c one", "a:0 :p, a:1 b:0, a:2 :q, a:3 c:0, c:1 :r", p="tri(era,?,one(?))", q="?", r="?")
        self.values("a tri, b era, c one, d era", "a:0 :p, a:3 b:0, a:1 c:0, a:2 d:0, c:1 :q",
                    p="tri(one(?),era,era)", q="?")
        self.values("a dup, b dup, c one, d era, e era", "a:0 :p, a:1 b:0, a:2 c:0, b:1 d:0, b:2 e:0, c:1 :q",
                    p="dup(dup(era,era),one(?))", q="?")

    def test_open_within(self):
        self.values("a dup", "a:0 :p, a:1 a:2", p="dup(?,?)")
        self.values("a dup, b one", "a:0 :p, a:1 b:1, b:0 a:2", p="dup(?,one(?))")
        self.values("a one, b one, c era", "a:0 :p, a:1 b:1, b:0 c:0", p="one(?)")

    def test_a_face_tied_to_a_hand_elsewhere(self):
        self.values("a one, b dup", "a:0 a:1, b:0 :p, b:1 b:2", p="dup(?,?)")
        self.values("a one, b one", "a:0 b:1, b:0 a:1, :p :q", p="?", q="?")

    def test_by_name(self):
        self.assertEqual(value_at(web=sum_web("add", 0, 0), name="out"), "?")

    def test_deep_ones(self):
        names = [(one + two + three,) for one in "abcdefghij" for two in "abcdefghijklmnop" for three in "abcdefghijklmno"]
        facers = [(who, "succ") for who in names[:-1]] + [(names[-1], "zero")]
        ties = [((one, 1), (other, 0)) for one, other in zip(names, names[1:])] + [((names[0], 0), ((), "out"))]
        web = Web(counts().kinds(), facers, ties)
        self.assertEqual(value_at(web, "out"), number(2399))
        self.assertEqual(come_to(counts(), web, "out"), (number(2399), []))

    def test_against_walking(self):
        seen = {}
        for seed in range(200):
            book, web = random_world(seed, 8, 4)
            for heap, other in heaps_of(book, web, 8)[0].items():
                for name in web.outers():
                    told = value_at(behind(book, web, sorted(heap)), name)
                    self.assertEqual(told, value(other, ((), name)))
                    seen[told] = True
        self.assertGreater(len(seen), 40)
        self.assertGreater(len([text for text in seen if text.count(")") > 2]), 10)

    def test_no_end(self):
        web = sum_web("add", 1, 1)
        for thing in ["in", "a", "ou", ((), "out"), ("out",), ("a", 0), (("a",), 2), "a:2", ":out", *odd_things()]:
            with self.assertRaises(NoEnd) as caught:
                value_at(web, thing)
            self.assertIs(caught.exception.end, thing)


class ComeTo(unittest.TestCase):
    def test_of_numbers(self):
        for one, other in ((0, 0), (0, 2), (2, 0), (3, 4), (1, 1)):
            web = sum_web("add", one, other)
            self.assertEqual(come_to(counts(), web, "out"), (number(one + other), whole(counts(), web)))
            web = sum_web("mul", one, other)
            self.assertEqual(come_to(counts(), web, "out")[0], number(one * other))

    def test_just_what_is_needed(self):
        web = sum_web("mul", 2, 2)
        text, names = come_to(counts(), web, "out")
        self.assertEqual(text, number(4))
        self.assertLess(len(names), len(whole(counts(), web)))
        self.assertEqual(value_at(behind(counts(), web, names), "out"), text)
        # Without the last one of them, whichever, the value isn't there yet.
        for who in names:
            some = [name for name in names if name != who]
            if is_heap(counts(), web, some):
                self.assertNotEqual(value_at(behind(counts(), web, some), "out"), text)

    def test_nothing_is_to_be_done(self):
        book = book_in(TABLE, *RULES)
        web = web_in(book.kinds(), "a era, b one, c era, d era, e one",
                     "a:0 :p, b:0 :q, b:1 :r, c:0 d:0, e:0 :s, e:1 :t, :u :v")
        for name, text in (("p", "era"), ("q", "one(?)"), ("r", "?"), ("s", "one(?)"), ("t", "?"), ("u", "?"), ("v", "?")):
            self.assertEqual(come_to(book, web, name), (text, []))
            self.assertEqual(come_to(book, web, name, limit=0), (text, []))
        self.assertEqual(len(ready(book, web)), 1)

    def test_what_stays_open_by_a_tie_to_a_hand(self):
        book = book_in(TABLE, *RULES)
        # A ring, two without a rule, a face at an OUTER end, and the value's own hands.
        for facers, ties, text in (
                ("a one", "a:1 :p, a:0 :q", "?"),
                ("a dup", "a:0 a:1, a:2 :p", "?"),
                ("a one, b one", "a:0 b:0, a:1 :p, b:1 :q", "?"),
                ("a dup", "a:0 :p, a:1 a:2", "dup(?,?)"),
                ("a dup, b one", "a:0 :p, a:1 b:1, b:0 a:2", "dup(?,one(?))")):
            web = web_in(book.kinds(), facers, ties)
            self.assertEqual(come_to(book, web, "p"), (text, []))

    def test_some_stay_open_and_some_do_not(self):
        book = book_in(TABLE, *RULES)
        web = web_in(book.kinds(), "a tri, b one, c era, d one, e one, f one, g era",
                     "a:0 :out, a:1 b:1, b:0 c:0, a:2 d:1, d:0 e:0, e:1 :in, a:3 f:1, f:0 g:0")
        self.assertEqual(value_at(web, "out"), "tri(?,?,?)")
        self.assertEqual(come_to(book, web, "out"), ("tri(era,?,era)", whos("b f")))
        self.assertEqual(come_to(book, web, "in"), ("?", []))

    def test_behind_meetings_that_end_in_a_chain_that_is_not_ready(self):
        book = book_in(TABLE, "one era: dup: l1 0:1, 0:0 0:2")
        web = web_in(book.kinds(), "a one, b era", "a:0 b:0, a:1 :out")
        self.assertEqual(come_to(book, web, "out"), ("?", whos("a")))

    def test_a_limit_that_is_just_enough_and_one_less(self):
        for one, other in ((1, 0), (2, 2), (0, 3)):
            web = sum_web("mul", one, other)
            text, names = come_to(counts(), web, "out")
            self.assertEqual(come_to(counts(), web, "out", limit=len(names)), (text, names))
            for limit in (0, len(names) - 1):
                self.too_many(counts(), web, "out", limit)

    def too_many(self, book, web, name, limit):
        with self.assertRaises(TooMany) as caught:
            come_to(book, web, name, limit=limit)
        self.assertEqual(caught.exception.limit, limit)

    def test_a_value_that_never_comes(self):
        book = book_in({"era": (), "one": (0,)}, "one era: one era: l1 0:1, 0:0 1:0")
        web = web_in(book.kinds(), "a one, b era, c era", "a:0 b:0, a:1 :out, c:0 :far")
        for limit in (0, 3, 200):
            self.too_many(book, web, "out", limit)
            self.assertEqual(come_to(book, web, "far", limit=limit), ("era", []))

    def test_a_value_that_never_ends(self):
        book = book_in({"era": (), "one": (0,)}, "one era: one one era: l1 0:0, 0:1 1:1, 1:0 2:0")
        web = web_in(book.kinds(), "a one, b era", "a:0 b:0, a:1 :out")
        for limit in (0, 3, 200):
            self.too_many(book, web, "out", limit)

    def test_by_name(self):
        told = come_to(book=counts(), web=sum_web("add", 0, 1), name="out", limit=1)
        self.assertEqual(told, (number(1), whos("a")))
        self.assertRaises(TypeError, come_to, counts(), sum_web("add", 0, 1), "out", 1)

    def test_the_least_heap_that_tells_it(self):
        seen = {True: 0, False: 0}
        for seed in range(300):
            book, web = random_world(seed, 8, 4)
            heaps, is_all = heaps_of(book, web, 40)
            if not is_all:
                continue
            last = heaps[max(heaps, key=len)]
            for name in web.outers():
                text, names = come_to(book, web, name)
                self.assertEqual(text, value(last, ((), name)))
                self.assertEqual(value(heaps[frozenset(names)], ((), name)), text)
                if "?" not in text:
                    those = [heap for heap, other in heaps.items() if value(other, ((), name)) == text]
                    self.assertEqual(sorted(min(those, key=len)), names)
                    self.assertTrue(all(heap >= set(names) for heap in those))
                    seen[len(names) > 0] += 1
        self.assertGreater(min(seen.values()), 15)

    def test_in_any_order(self):
        seen = {}
        for seed in range(200):
            book, web = random_world(seed, 8, 4)
            source = random.Random(seed)
            for name in web.outers():
                told = come_to_by(book, web, name, source, 12)
                if told is None:
                    self.too_many(book, web, name, 12)
                else:
                    self.assertEqual(come_to(book, web, name, limit=12), told)
                    self.assertEqual(row_of(book, web, told[1]), row_of(book, web, told[1][::-1]))
                seen[told is None or len(told[1])] = True
        self.assertEqual([many for many in (True, 0, 1, 2, 3) if many not in seen], [])


class Refused(unittest.TestCase):
    def test_no_end(self):
        for thing in ["in", "a", ((), "out"), ("out",), ":out", *odd_things()]:
            for limit in (200, None):
                with self.assertRaises(NoEnd) as caught:
                    come_to(counts(), sum_web("add", 1, 1), thing, limit=limit)
                self.assertIs(caught.exception.end, thing)

    def test_no_count(self):
        for thing in no_limits():
            self.assertRaises(NoCount, come_to, counts(), sum_web("add", 1, 1), "out", limit=thing)

    def test_unlike_ahead_of_all_else(self):
        book, web = counts(), sum_web("add", 1, 1)
        pairs = [(book, thing) for thing in odd_things()] + [(thing, web) for thing in odd_things()]
        pairs += [(book, Web(some_kinds())), (book, Web(Kinds({}))), (book_in(TABLE), web), (web, book)]
        for one, other in pairs:
            for name in ("out", "in", None, Touchy()):
                self.assertRaises(Unlike, come_to, one, other, name)
                self.assertRaises(Unlike, come_to, one, other, name, limit=None)


class Kept(unittest.TestCase):
    def test_a_tuple_with_a_list(self):
        book, web = counts(), sum_web("add", 1, 1)
        text = web_text(web)
        told = come_to(book, web, "out")
        self.assertEqual([type(part) for part in (told, *told)], [tuple, str, list])
        told[1].clear()
        self.assertEqual(come_to(book, web, "out"), (number(2), whos("a a.1")))
        self.assertEqual(web_text(web), text)
        self.assertEqual(book, counts())


if __name__ == "__main__":
    unittest.main()
