"""Point 19: WISHES, NEEDS, IN THE WAY. Point 4: what is done for a wish is in each heap that fulfils it."""

import random
import unittest

from onefacers.errors import NoCount, NoWish, TooMany, Unlike
from onefacers.heaps import behind, is_heap, whole
from onefacers.kinds import Kinds
from onefacers.needs import is_wish, need
from onefacers.webs import Web
from onefacers.webtexts import web_text
from tests.things import Touchy, no_limits, odd_things, some_kinds
from tests.worlds import book_in, counts, endless, heaps_of, random_world, sum_web, web_in, whos

TABLE = {"dup": (0, 0), "era": (), "one": (0,)}
RULES = ["one era: era: l1 0:0", "era era::"]


def meet(text):
    return ("meet", whos(text)[0])


def chain_world():
    """a meets b, what comes of them c, what comes of these d; e and f meet by themselves."""
    book = book_in(TABLE, "one era: era: l1 0:0")
    return book, web_in(book.kinds(), "a one, b era, c one, d one, e one, f era",
                        "a:0 b:0, a:1 c:0, c:1 d:0, d:1 :out, e:0 f:0, e:1 :far")


def is_fulfilled(other, wish):
    """Whether it is, of an Unfolded."""
    word, goal = wish
    if word == "meet":
        return goal in other.words and goal not in other.there
    end, number = other.walk(((), goal))[0]
    return end == () or number == 0


class Wishes(unittest.TestCase):
    def test_meet(self):
        web = sum_web("add", 1, 1)
        for who in (("a",), ("ma",), ("z",), ("a", 11, 0, 5), ("abcdefgh",)):
            self.assertIs(is_wish(web, ("meet", who)), True)
        self.assertIs(is_wish(web=web, thing=("meet", ("a",))), True)
        for who in (("A",), ("a", 12), ("a", True), ("a", False), ["a"], "a", (), None, ("a", -1)):
            self.assertIs(is_wish(web, ("meet", who)), False)

    def test_end(self):
        web = sum_web("add", 1, 1)
        self.assertIs(is_wish(web, ("end", "out")), True)
        for name in ("in", "a", "", "OUT", None, ("out",), ((), "out"), 0):
            self.assertIs(is_wish(web, ("end", name)), False)

    def test_of_anything(self):
        web = sum_web("add", 1, 1)
        things = [("out", "end"), ["end", "out"], ("end", "out", "out"), ("end",), ("END", "out"), ("ends", "out"),
                  ("meat", ("a",)), ["meet", ("a",)], ("meet", ("a",), 0), ("meet",), "meet", {"meet": ("a",)}, (b"end", "out")]
        things += [("meet", thing) for thing in odd_things()] + [("end", thing) for thing in odd_things()]
        things += [(thing, "out") for thing in odd_things()] + [(thing, ("a",)) for thing in odd_things()]
        for thing in things + odd_things():
            self.assertIs(is_wish(web, thing), False)
            for limit in (200, None):
                self.assertRaises(NoWish, need, counts(), web, thing, limit=limit)


class Needs(unittest.TestCase):
    def test_fulfilled_in_the_web(self):
        book = book_in(TABLE, *RULES)
        web = web_in(book.kinds(), "a one, b one", "a:0 :face, a:1 :hand, b:0 b:1, :one :other")
        for name in ("face", "one", "other"):
            self.assertEqual(need(book, web, ("end", name)), [])
            self.assertEqual(need(book, web, ("end", name), limit=0), [])
        self.assertIsNone(need(book, web, ("end", "hand")))
        self.assertIsNone(need(book, web, ("end", "hand"), limit=0))

    def test_meet_of_a_facer_that_is_there(self):
        book, web = chain_world()
        for text, told in (("a", "a"), ("b", "a"), ("e", "e"), ("f", "e"), ("c", "a c"), ("d", "a c d")):
            self.assertEqual(need(book, web, meet(text)), whos(told))

    def test_meet_of_a_facer_that_is_not_there_yet(self):
        book, web = chain_world()
        for text, told in (("a.0", "a c"), ("c.0", "a c d")):
            self.assertEqual(need(book, web, meet(text)), whos(told))
        web = sum_web("mul", 2, 1)
        self.assertEqual(need(counts(), web, meet("a.1.1")), whos("a a.1 a.1.1"))
        self.assertEqual(need(counts(), web, meet("a.0.2")), whos("a a.0 a.0.2"))

    def test_meet_of_one_that_never_comes(self):
        book, web = chain_world()
        # d.0 waits at the OUTER end; a's meeting has no place 1; b and f are right ones; nobody is z.
        for text in ("d.0", "a.1", "a.0.0", "b.0", "z", "z.1.2", "f.3"):
            self.assertIsNone(need(book, web, meet(text)))
        self.assertIsNone(need(book, web, meet("z"), limit=0))

    def test_end(self):
        book, web = chain_world()
        self.assertEqual(need(book, web, ("end", "out")), whos("a c d"))
        self.assertEqual(need(book, web, ("end", "far")), whos("e"))
        self.assertEqual(need(counts(), sum_web("add", 2, 3), ("end", "out")), whos("a"))
        self.assertEqual(need(counts(), sum_web("mul", 1, 2), ("end", "out")), whos("a a.0 a.2"))

    def test_an_outer_end_that_comes_to_an_outer_end(self):
        book = book_in(TABLE, "one one:: l1 r1")
        web = web_in(book.kinds(), "a one, b one, c one, d one", "a:0 b:0, c:0 d:0, a:1 :p, b:1 c:1, d:1 :q")
        for name in ("p", "q"):
            self.assertEqual(need(book, web, ("end", name)), whos("a c"))

    def test_a_ring_a_chain_without_a_rule_and_one_that_ends_outside(self):
        book = book_in(TABLE, "one era: era: l1 0:0")
        web = web_in(book.kinds(), "a one, b one, c era, d era, e dup, f one",
                     "a:0 a:1, b:1 :p, b:0 e:1, e:0 e:2, c:0 d:0, f:1 :q, f:0 :r")
        for wish in (meet("a"), meet("b"), meet("c"), meet("d"), meet("f"), ("end", "p"), ("end", "q"), meet("e")):
            for limit in (0, 200):
                self.assertIsNone(need(book, web, wish, limit=limit))

    def test_none_only_behind_some_meetings(self):
        book, web = chain_world()
        self.assertIsNone(need(book, web, meet("d.0"), limit=3))
        for limit in (0, 2):
            self.too_many(book, web, meet("d.0"), limit)

    def too_many(self, book, web, wish, limit):
        with self.assertRaises(TooMany) as caught:
            need(book, web, wish, limit=limit)
        self.assertEqual(caught.exception.limit, limit)

    def test_a_limit_that_is_just_enough_and_one_less(self):
        book, web = chain_world()
        for wish, many in ((meet("a"), 1), (meet("d"), 3), (("end", "out"), 3), (meet("c"), 2), (meet("c.0"), 3)):
            self.assertEqual(len(need(book, web, wish, limit=many)), many)
            self.too_many(book, web, wish, many - 1)
            self.too_many(book, web, wish, 0)

    def test_a_wish_that_is_always_put_off(self):
        book = book_in({"era": (), "one": (0,)}, "one era: one era: l1 0:1, 0:0 1:0")
        web = web_in(book.kinds(), "a one, b era", "a:0 b:0, a:1 :out")
        for limit in (0, 5, 200):
            self.too_many(book, web, ("end", "out"), limit)
        self.assertEqual(need(book, web, ("meet", ("a",) + (0,) * 199)), [("a",) + (0,) * many for many in range(200)])
        self.too_many(book, web, ("meet", ("a",) + (0,) * 200), 200)
        self.assertIsNone(need(book, web, ("meet", ("a",) + (0,) * 30 + (2,) * 5)))

    def test_of_a_web_that_never_comes_to_rest(self):
        book, web = endless()
        self.assertEqual(need(book, web, meet("a.0.0.1")), whos("a a.0 a.0.0 a.0.0.0"))
        self.assertEqual(need(book, web, meet("b")), whos("a"))
        self.assertIsNone(need(book, web, meet("b.0")))
        self.assertIsNone(need(book, web, meet("a.0.1.0")))

    def test_by_name(self):
        book, web = chain_world()
        self.assertEqual(need(book=book, web=web, wish=meet("b"), limit=1), whos("a"))
        self.assertRaises(TypeError, need, book, web, meet("b"), 1)

    def test_the_least_heap(self):
        seen = {}
        for seed in range(250):
            book, web = random_world(seed, 8, 4)
            heaps, is_all = heaps_of(book, web, 40)
            if not is_all:
                continue
            last = heaps[max(heaps, key=len)]
            goals = list(last.words) + [("z",), ("a", 0), ("d", 1, 1), ("b", 3, 0, 0)]
            for wish in [("meet", who) for who in goals] + [("end", name) for name in web.outers()]:
                those = [heap for heap, other in heaps.items() if is_fulfilled(other, wish)]
                told = need(book, web, wish)
                if not those:
                    self.assertIsNone(told)
                    seen[None] = seen.get(None, 0) + 1
                    continue
                least = min(those, key=len)
                self.assertEqual(told, sorted(least))
                self.assertTrue(all(least <= heap for heap in those))
                self.assertIs(is_heap(book, web, told), True)
                seen[len(told)] = seen.get(len(told), 0) + 1
        for many in (None, 0, 1, 2, 3):
            self.assertGreater(seen.get(many, 0), 20)

    def test_of_webs_of_which_more_is_to_be_done(self):
        for seed in range(80):
            book, web = random_world(seed, 8, 4)
            heaps, is_all = heaps_of(book, web, 12)
            if is_all:
                continue
            source = random.Random(seed)
            heap = source.choice(list(heaps))
            for wish in [("meet", who) for who in heaps[heap].words] + [("end", name) for name in web.outers()]:
                if is_fulfilled(heaps[heap], wish):
                    told = need(book, web, wish)
                    self.assertTrue(set(told) <= heap)
                    self.assertEqual(need(book, behind(book, web, told[:0]), wish), told)


class Refused(unittest.TestCase):
    def test_no_count(self):
        book, web = chain_world()
        for thing in no_limits():
            for wish in (meet("d"), meet("z"), ("end", "out"), ("end", "far")):
                self.assertRaises(NoCount, need, book, web, wish, limit=thing)

    def test_unlike_ahead_of_all_else(self):
        book, web = chain_world()
        pairs = [(book, thing) for thing in odd_things()] + [(thing, web) for thing in odd_things()]
        pairs += [(book, Web(some_kinds())), (book, Web(Kinds({}))), (counts(), web), (web, book)]
        for one, other in pairs:
            for wish in (meet("a"), ("end", "out"), None, Touchy()):
                self.assertRaises(Unlike, need, one, other, wish)
                self.assertRaises(Unlike, need, one, other, wish, limit=None)

    def test_no_wish_ahead_of_no_count(self):
        book, web = chain_world()
        self.assertRaises(NoWish, need, book, web, ("end", "in"), limit=True)
        self.assertRaises(NoCount, need, book, web, meet("d"), limit=True)


class Kept(unittest.TestCase):
    def test_what_is_told_may_be_changed(self):
        book, web = chain_world()
        text = web_text(web)
        told = need(book, web, meet("d"))
        told.clear()
        self.assertEqual(need(book, web, meet("d")), whos("a c d"))
        need(book, web, ("end", "out")).append(None)
        self.assertEqual(need(book, web, ("end", "out")), whos("a c d"))
        self.assertEqual(web_text(web), text)

    def test_what_came_back_may_be_handed_in(self):
        book, web = chain_world()
        names = need(book, web, meet("c"))
        self.assertEqual(need(book, behind(book, web, names), ("end", "out")), whos("d"))
        self.assertEqual(whole(book, behind(book, web, names)), whos("d e"))


if __name__ == "__main__":
    unittest.main()
