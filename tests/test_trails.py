"""Point 18: the TRAIL of an end behind a heap."""

import random
import unittest

from onefacers.errors import NoEnd, NoHeap, Unlike
from onefacers.heaps import behind, whole
from onefacers.kinds import Kinds
from onefacers.trails import trail
from onefacers.webs import Web
from tests.things import Touchy, no_lists_of_whos, odd_things, some_kinds
from tests.worlds import book_in, counts, end_in, heaps_of, random_world, sum_web, web_in, whos

TABLE = {"dup": (0, 0), "era": (), "one": (0,), "tri": (0, 0, 0)}


class Trails(unittest.TestCase):
    def goes(self, book, web, heap, **told):
        """From each end, written out with _ for a point and __ for a colon, the trail is this."""
        for word, text in told.items():
            end = end_in(word.replace("__", ":").replace("_", "."))
            self.assertEqual(trail(book, web, whos(heap), end), whos(text))
            mate = behind(book, web, whos(heap)).mate(end)
            self.assertEqual(trail(book, web, whos(heap), mate), whos(text)[::-1])

    def test_empty_where_there_is_no_joint(self):
        book, web = counts(), sum_web("add", 1, 1)
        for one, other in web.ties():
            self.assertEqual(trail(book, web, [], one), [])
            self.assertEqual(trail(book, web, (), other), [])
        self.goes(book, web, "a", mb__0="a", a_1__2="", a_0__1="", na__1="", __out="a", na__0="a")

    def test_from_joint_to_joint_of_one_meeting(self):
        book = book_in(TABLE, "tri tri:: l1 r1, l2 r2, l3 r3")
        web = web_in(book.kinds(), "a tri, b tri", "a:0 b:0, a:1 :p, b:1 a:2, b:2 a:3, b:3 :q")
        self.goes(book, web, "a", __p="a a a a a a", __q="a a a a a a")

    def test_one_for_each_joint(self):
        book = book_in(TABLE, "one one:: l1 r1")
        web = web_in(book.kinds(), "a one, b one, c one, d one", "a:0 b:0, c:0 d:0, a:1 :p, b:1 c:1, d:1 :q")
        self.goes(book, web, "a", __p="a a", __q="")
        self.goes(book, web, "c", __p="", __q="c c")
        self.goes(book, web, "a c", __p="a a c c", __q="c c a a")
        self.goes(book, web, "c a", __p="a a c c", __q="c c a a")

    def test_on_the_way_and_back(self):
        # p leads by a, then by c, and by a again, to q.
        book = book_in(TABLE, "dup dup:: l1 r1, l2 r2", "one one:: l1 r1")
        web = web_in(book.kinds(), "a dup, b dup, c one, d one",
                     "a:0 b:0, c:0 d:0, a:1 :p, b:1 c:1, d:1 a:2, b:2 :q")
        self.goes(book, web, "a c", __p="a a c c a a", __q="a a c c a a")
        self.goes(book, web, "a", __p="a a", __q="a a")

    def test_that_of_a_face(self):
        book = book_in(TABLE, "one era: era: l1 0:0", "era era::")
        web = web_in(book.kinds(), "a one, b era, c one, d era, e era", "a:0 b:0, c:0 d:0, a:1 c:1, e:0 :out")
        self.goes(book, web, "a c", a_0__0="a c", c_0__0="c a", e__0="", __out="")
        self.goes(book, web, "a", a_0__0="a", c__1="a")

    def test_of_numbers(self):
        book, web = counts(), sum_web("add", 2, 1)
        self.goes(book, web, "a a.1", a_0__1="a.1", __out="a", na__0="a a.1", a_1_1__0="a.1", mc__0="a.1")
        self.goes(book, web, "a a.1 a.1.1", a_1_0__1="a.1.1 a.1.1 a.1 a")

    def test_by_name(self):
        book, web = counts(), sum_web("add", 1, 1)
        self.assertEqual(trail(book=book, web=web, names=whos("a"), end=((), "out")), whos("a"))

    def test_against_walking(self):
        longest, twice = 0, 0
        for seed in range(120):
            book, web = random_world(seed, 8, 4)
            heaps, _ = heaps_of(book, web, 12)
            source = random.Random(seed)
            for heap, other in heaps.items():
                names = sorted(heap)
                source.shuffle(names)
                for end in other.ends():
                    mate, row = other.walk(end)
                    told = trail(book, web, names, end)
                    self.assertEqual(told, row)
                    self.assertEqual(trail(book, web, names, mate), row[::-1])
                    longest = max(longest, len(row))
                    twice += any(row.count(who) > 1 for who in row)
        self.assertGreater(longest, 8)
        self.assertGreater(twice, 200)


class Refused(unittest.TestCase):
    def no_end(self, book, web, names, end):
        with self.assertRaises(NoEnd) as caught:
            trail(book, web, names, end)
        self.assertIs(caught.exception.end, end)

    def test_no_end(self):
        book, web = counts(), sum_web("add", 1, 1)
        none = [((), "in"), (("a",), 0), (("a",), 2), (("ma",), 1), (("a", 2), 0), (("a", 0), 2), (("a", 0), -1),
                (("a", 1), -2), (("a", True), 0), (("a", False), 0), (("a", 0), True), (("a", 0), False), ((), "l1"),
                ((), 0), (("a", 0),), [("a", 0), 0], "out", ("out",), (("a", 0), 0, 0), ((0,), 0)]
        for thing in [*none, *odd_things()]:
            self.no_end(book, web, whos("a"), thing)
        self.no_end(book, web, [], (("a", 0), 0))

    def test_an_end_behind_the_heap_or_ahead_of_it(self):
        book, web = counts(), sum_web("add", 1, 1)
        self.assertEqual(trail(book, web, [], (("ma",), 0)), [])
        self.no_end(book, web, whos("a"), (("ma",), 0))
        self.assertEqual(trail(book, web, whos("a"), (("a", 0), 0)), whos("a"))
        self.assertEqual(trail(book, web, whos("a"), (("a", 1), 2)), [])

    def test_no_heap_ahead_of_no_end(self):
        book, web = counts(), sum_web("add", 1, 1)
        for names in no_lists_of_whos():
            for end in (((), "out"), None):
                with self.assertRaises(NoHeap) as caught:
                    trail(book, web, names, end)
                self.assertIsNone(caught.exception.who)
        with self.assertRaises(NoHeap) as caught:
            trail(book, web, whos("b a a.0"), Touchy())
        self.assertEqual(caught.exception.who, ("a", 0))

    def test_unlike_ahead_of_all_else(self):
        book, web = counts(), sum_web("add", 1, 1)
        for thing in odd_things():
            for one, other in ((book, thing), (thing, web), (thing, thing)):
                self.assertRaises(Unlike, trail, one, other, [], ((), "out"))
                self.assertRaises(Unlike, trail, one, other, None, None)
        self.assertRaises(Unlike, trail, book, Web(some_kinds()), None, None)
        self.assertRaises(Unlike, trail, book, Web(Kinds({})), [], ((), "out"))


class Kept(unittest.TestCase):
    def test_what_is_told_may_be_changed(self):
        book, web = counts(), sum_web("add", 2, 1)
        names = whole(book, web)[::-1]
        row = trail(book, web, names, ((), "out"))
        row.append(None)
        self.assertEqual(trail(book, web, names, ((), "out")), whos("a"))
        self.assertEqual(names, whos("a.1.1 a.1 a"))
        self.assertEqual((book, web), (counts(), sum_web("add", 2, 1)))


if __name__ == "__main__":
    unittest.main()
