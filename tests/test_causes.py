"""Point 17: CAUSES, LENGTH, LAST, what some BEAR. Point 4: each meeting has one least heap of causes."""

import itertools
import random
import unittest

from onefacers.causes import borne_by, causes_of, lasts, lengths
from onefacers.errors import NoHeap, NoMeeting, Unlike
from onefacers.heaps import is_heap, whole
from onefacers.kinds import Kinds
from onefacers.webs import Web
from tests.things import Touchy, no_lists_of_whos, odd_things, some_kinds
from tests.worlds import book_in, counts, endless, heaps_of, many_pairs, random_world, sum_web, web_in, whos

TABLE = {"dup": (0, 0), "era": (), "one": (0,)}
RULES = ["one era: era: l1 0:0", "era era::"]

LENGTHS = {("a",): 1, ("a", 0): 2, ("a", 0, 2): 3, ("a", 1): 2, ("a", 1, 0): 3, ("a", 1, 0, 0): 4, ("a", 2): 3,
           ("a", 2, 1): 4}


def fork():
    """A web in which a and c are ready, and a.0 meets c.0 behind them, and e is ready, too."""
    book = book_in(TABLE, *RULES)
    return book, web_in(book.kinds(), "a one, b era, c one, d era, e era, f era", "a:0 b:0, c:0 d:0, a:1 c:1, e:0 f:0")


class Causes(unittest.TestCase):
    def causes(self, world, heap, **told):
        for word, text in told.items():
            who = whos(word.replace("_", "."))[0]
            self.assertEqual(causes_of(*world, whos(heap), who), whos(text))
            self.assertEqual(causes_of(*world, tuple(whos(heap))[::-1], who), whos(text))

    def test_a_meeting_without_causes(self):
        self.causes(fork(), "", a="", c="", e="")
        self.causes(fork(), "a c e a.0", a="", c="", e="")

    def test_behind_the_heap_and_not_in_it(self):
        self.causes(fork(), "c a", a_0="a c")
        self.causes(fork(), "c e a", a_0="a c")
        self.causes(fork(), "c a e a.0", a_0="a c")

    def test_by_which_its_facers_came(self):
        book = book_in(TABLE, "era era: one: 0:0 0:1", "one one: era era: l1 0:0, r1 1:0")
        world = (book, web_in(book.kinds(), "a one, b one, c one, d one", "a:0 b:0, c:0 d:0, a:1 c:1, b:1 :p, d:1 :q"))
        self.causes(world, "a c", a_0="a c")
        self.assertEqual(causes_of(*world, whos("c a a.0"), ("a", 0)), whos("a c"))

    def test_on_the_trail_of_their_faces(self):
        # Neither e nor f came by a meeting, but the tie between them leads through a's and c's joints.
        book = book_in(TABLE, "one one:: l1 r1", "era era::")
        world = (book, web_in(book.kinds(), "a one, b one, c one, d one, e era, f era",
                              "a:0 b:0, c:0 d:0, a:1 e:0, b:1 c:1, d:1 f:0"))
        self.causes(world, "a c", a="", c="", e="a c")
        self.causes(world, "a c e", e="a c")
        self.assertEqual(lengths(*world, whos("e a c")), {("a",): 1, ("c",): 1, ("e",): 2})

    def test_all_causes_of_causes(self):
        book, web = counts(), sum_web("add", 3, 0)
        self.causes((book, web), "a a.1 a.1.1 a.1.1.1", a="", a_1="a", a_1_1="a a.1", a_1_1_1="a a.1 a.1.1")
        self.causes((book, web), "a a.1", a="", a_1="a", a_1_1="a a.1")

    def test_places_that_the_first_web_has(self):
        book = book_in(TABLE, *RULES)
        world = (book, web_in(book.kinds(), "a.0 era, b era, c.0.0 one, c.0.1 era",
                              "a.0:0 b:0, c.0.0:0 c.0.1:0, c.0.0:1 :out"))
        self.causes(world, "", a_0="", c_0_0="")
        self.causes(world, "a.0 c.0.0", a_0="", c_0_0="")

    def test_one_behind_another(self):
        book, web = endless()
        names = [("a",) + (0,) * count for count in range(200)]
        self.assertEqual(causes_of(book, web, names[::-1], names[150]), names[:150])
        self.assertEqual(causes_of(book, web, names[::-1], names[199] + (0,)), names)
        self.assertEqual(lengths(book, web, names), {who: at + 1 for at, who in enumerate(names)})
        self.assertEqual(lasts(book, web, names), names[-1:])
        self.assertEqual(borne_by(book, web, names, [names[70], names[30]]), names[:71])

    def test_two_hundred_side_by_side(self):
        book, web = many_pairs(200)
        names = whole(book, web)
        self.assertEqual(lasts(book, web, names), names)
        self.assertEqual(set(lengths(book, web, names).values()), {1})
        self.assertEqual(borne_by(book, web, names, names[::-1]), names)

    def test_by_name(self):
        book, web = fork()
        self.assertEqual(causes_of(book=book, web=web, names=whos("a c"), who=("a", 0)), whos("a c"))
        self.assertEqual(lengths(book=book, web=web, names=whos("a")), {("a",): 1})
        self.assertEqual(lasts(book=book, web=web, names=whos("a c")), whos("a c"))
        self.assertEqual(borne_by(book=book, web=web, names=whos("a c"), some=whos("c")), whos("c"))


class LengthsAndLasts(unittest.TestCase):
    def test_lengths(self):
        self.assertEqual(lengths(*fork(), []), {})
        self.assertEqual(lengths(*fork(), whos("e c a.0 a")), dict(zip(whos("a a.0 c e"), [1, 2, 1, 1])))
        book, web = counts(), sum_web("mul", 1, 1)
        # dup's, mul's and add's deeds side by side, then what comes of these.
        self.assertEqual(lengths(book, web, whole(book, web)[::-1]), LENGTHS)
        self.assertEqual(list(lengths(book, web, whole(book, web)[::-1])), whole(book, web))

    def test_lasts(self):
        self.assertEqual(lasts(*fork(), []), [])
        self.assertEqual(lasts(*fork(), whos("c a")), whos("a c"))
        self.assertEqual(lasts(*fork(), whos("e a.0 c a")), whos("a.0 e"))
        self.assertEqual(lasts(counts(), sum_web("add", 3, 0), whos("a.1.1 a a.1")), whos("a.1.1"))

    def test_lasts_are_those_that_may_be_left_out(self):
        seen = 0
        for seed in range(120):
            book, web = random_world(seed, 8, 4)
            for heap in heaps_of(book, web, 30)[0]:
                told = lasts(book, web, sorted(heap))
                self.assertEqual(told, sorted(who for who in heap if is_heap(book, web, sorted(heap - {who}))))
                seen += len(heap) > len(told) > 1
        self.assertGreater(seen, 100)


class Borne(unittest.TestCase):
    def test_none_one_and_all(self):
        book, web = fork()
        names = whos("e a.0 c a")
        for some in ([], ()):
            self.assertEqual(borne_by(book, web, names, some), [])
        self.assertEqual(borne_by(book, web, names, whos("a.0")), whos("a a.0 c"))
        self.assertEqual(borne_by(book, web, names, whos("e")), whos("e"))
        self.assertEqual(borne_by(book, web, names, tuple(whos("e c"))), whos("c e"))
        for some in itertools.permutations(names):
            self.assertEqual(borne_by(book, web, names, some), whos("a a.0 c e"))
        self.assertEqual(borne_by(book, web, [], []), [])

    def test_some_that_is_not_of_the_heap(self):
        book, web = fork()
        for text in ("e", "a e", "z", "a.0", "b", "a a", "c a c"):
            for some in (whos(text), tuple(whos(text))):
                self.no_heap(None, book, web, whos("a c"), some)
        self.no_heap(None, book, web, [], whos("a"))

    def test_some_of_anything(self):
        for some in no_lists_of_whos():
            self.no_heap(None, *fork(), whos("a c e"), some)
        self.no_heap(None, *fork(), whos("a"), ("a",))

    def test_a_truth_in_some(self):
        book = book_in(TABLE, *RULES)
        web = web_in(book.kinds(), "a.0 era, b era, a.1 era, c era", "a.0:0 b:0, a.1:0 c:0")
        self.assertEqual(borne_by(book, web, whos("a.1 a.0"), whos("a.1")), whos("a.1"))
        self.no_heap(None, book, web, whos("a.1 a.0"), [("a", True)])
        self.no_heap(None, book, web, whos("a.1 a.0"), [("a", False)])

    def no_heap(self, who, *handed):
        with self.assertRaises(NoHeap) as caught:
            borne_by(*handed)
        self.assertEqual(caught.exception.who, who)


class LeastHeaps(unittest.TestCase):
    def test_causes_are_the_least_heap(self):
        seen = {}
        for seed in range(250):
            book, web = random_world(seed, 8, 4)
            heaps, is_all = heaps_of(book, web, 40)
            if not is_all:
                continue
            behind_which = {}
            for heap, other in heaps.items():
                for who in other.lefts():
                    behind_which.setdefault(who, []).append(heap)
            for who, those in behind_which.items():
                least = min(those, key=len)
                self.assertTrue(all(least <= heap for heap in heaps if who in heap or heap in those))
                for heap in [heap for heap in heaps if who in heap][:4] + those[:4]:
                    self.assertEqual(causes_of(book, web, sorted(heap, reverse=True), who), sorted(least))
                seen[len(least)] = seen.get(len(least), 0) + 1
        for many in range(4):
            self.assertGreater(seen.get(many, 0), 5)

    def test_lengths_are_1_more(self):
        for seed in range(120):
            book, web = random_world(seed, 8, 4)
            for heap in list(heaps_of(book, web, 30)[0])[::3]:
                names = sorted(heap)
                told = lengths(book, web, names)
                self.assertEqual(list(told), names)
                for who in names:
                    causes = causes_of(book, web, names, who)
                    self.assertEqual(told[who], 1 + max([told[cause] for cause in causes], default=0))

    def test_borne_by_is_the_least_heap_that_has_them(self):
        seen = 0
        for seed in range(120):
            book, web = random_world(seed, 8, 4)
            heaps = list(heaps_of(book, web, 30)[0])
            source = random.Random(seed)
            last = heaps[-1]
            some = source.sample(sorted(last), source.randrange(len(last) + 1))
            least = min([heap for heap in heaps if heap >= set(some)], key=len)
            self.assertEqual(borne_by(book, web, sorted(last), some), sorted(least))
            seen += len(least) > len(some) > 0
        self.assertGreater(seen, 15)


class Refused(unittest.TestCase):
    def test_no_meeting(self):
        book, web = fork()
        for thing in [("b",), ("d",), ("f",), ("a", 0), ("a", 0, 0), ("z",), ["a"], "a", [("a",)], *odd_things()]:
            for names in ([], whos("a"), whos("a e")):
                with self.assertRaises(NoMeeting) as caught:
                    causes_of(book, web, names, thing)
                self.assertIs(caught.exception.who, thing)

    def test_truths_are_no_places(self):
        book = book_in(TABLE, *RULES)
        web = web_in(book.kinds(), "a.0 era, b era, a.1 era, c era", "a.0:0 b:0, a.1:0 c:0")
        for names in ([], whos("a.0"), whos("a.0 a.1")):
            for who in (("a", True), ("a", False)):
                self.assertRaises(NoMeeting, causes_of, book, web, names, who)

    def test_no_heap_ahead_of_no_meeting(self):
        book, web = fork()
        for names, who in ((whos("a.0 a"), ("a", 0)), (whos("b a"), ("b",)), (whos("f d b"), ("b",)),
                           (whos("a a"), None), (None, None), (("a",), None), ([["a"]], None)):
            for call, rest in ((causes_of, (None,)), (causes_of, (("a",),)), (lengths, ()), (lasts, ()),
                               (borne_by, ([],)), (borne_by, (Touchy(),)), (borne_by, (whos("z"),))):
                with self.assertRaises(NoHeap) as caught:
                    call(book, web, names, *rest)
                self.assertEqual(caught.exception.who, who)

    def test_names_of_anything(self):
        book, web = fork()
        for thing in no_lists_of_whos():
            for call, rest in ((causes_of, (("a",),)), (lengths, ()), (lasts, ()), (borne_by, ([],))):
                with self.assertRaises(NoHeap) as caught:
                    call(book, web, thing, *rest)
                self.assertIsNone(caught.exception.who)

    def test_unlike_ahead_of_all_else(self):
        book, web = fork()
        pairs = [(book, thing) for thing in odd_things()] + [(thing, web) for thing in odd_things()]
        pairs += [(book, Web(some_kinds())), (book, Web(Kinds({}))), (counts(), web), (web, book)]
        for one, other in pairs:
            for names in ([], None, whos("a a")):
                self.assertRaises(Unlike, causes_of, one, other, names, None)
                self.assertRaises(Unlike, lengths, one, other, names)
                self.assertRaises(Unlike, lasts, one, other, names)
                self.assertRaises(Unlike, borne_by, one, other, names, None)


class Kept(unittest.TestCase):
    def test_what_is_told_may_be_changed(self):
        book, web = fork()
        names, some = whos("c a.0 a"), whos("c a")
        for call in (lambda: causes_of(book, web, names, ("a", 0)), lambda: lengths(book, web, names),
                     lambda: lasts(book, web, names), lambda: borne_by(book, web, names, some)):
            before = call()
            self.assertIsNot(call(), call())
            call().clear()
            self.assertEqual(call(), before)
            self.assertTrue(before)
        self.assertEqual((names, some), (whos("c a.0 a"), whos("c a")))
        self.assertEqual((book, web), fork())


if __name__ == "__main__":
    unittest.main()
