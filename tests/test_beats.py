"""Point 26: BEATS, a LONGEST ROW, the BOUND. Point 4: how many beats hands need."""

import unittest

from onefacers.beats import bound, longest, schedule
from onefacers.books import Book
from onefacers.causes import causes_of, lengths
from onefacers.errors import NoCount, NoHeap, TooMany, Unlike
from onefacers.heaps import is_row, whole
from onefacers.kinds import Kinds
from onefacers.meetings import ready
from onefacers.webs import Web
from onefacers.webtexts import web_text
from tests.things import Touchy, no_limits, no_lists_of_whos, odd_things, some_kinds
from tests.worlds import (FORK, RULES, Unfolded, book_in, counts, endless, fork, heaps_of, many_pairs, random_world,
                          sum_web, web_in, whos)

A = ("a",)


def no_hands():
    """Things of many kinds, none of which is a whole number from 1 on."""
    things = [thing for thing in odd_things() if isinstance(thing, bool) or not isinstance(thing, int)]
    return things + [0, -1, -(10 ** 29), "1", [1], (1,)]


def beats_by_walking(book, web, hands, most):
    """The beats, or None for more meetings than that."""
    other, beats = Unfolded(book, web), []
    while other.lefts():
        beats.append(other.lefts()[:hands])
        if sum(map(len, beats)) > most:
            return None
        for left in beats[-1]:
            other.do(left)
    return beats


class Schedule(unittest.TestCase):
    def beats(self, world, *told, **named):
        self.assertEqual(schedule(*world, **named), [whos(text) for text in told])

    def test_hands_fewer_than_as_many_as_and_more_than_are_ready(self):
        self.beats(fork(), "a", "c", "a.0", "e", hands=1)
        self.beats(fork(), "a c", "a.0 e", hands=2)
        self.beats(fork(), "a c e", "a.0", hands=3)
        for hands in (4, 200, 201, 10 ** 29):
            self.beats(fork(), "a c e", "a.0", hands=hands)

    def test_what_is_left_out(self):
        self.beats(fork(), "a", "c", "a.0", "e")
        book, web = fork()
        self.assertEqual(schedule(book=book, web=web, hands=2, limit=4), [whos("a c"), whos("a.0 e")])
        self.assertRaises(TypeError, schedule, book, web, 2)

    def test_what_becomes_ready_in_a_beat_waits_for_the_next_one(self):
        # What comes of b's meeting makes a ready, which is lesser than d.
        book = book_in(FORK, *RULES)
        world = book, web_in(book.kinds(), "b one, c era, d era, e era, a era", "b:0 c:0, b:1 a:0, d:0 e:0")
        self.beats(world, "b", "a", "d", hands=1)
        self.beats(world, "b d", "a", hands=2)
        self.beats(world, "b d", "a", hands=3)

    def test_none_of_nothing(self):
        for hands in (1, 3):
            self.assertEqual(schedule(counts(), Web(counts().kinds()), hands=hands), [])
            self.assertEqual(schedule(counts(), Web(counts().kinds()), hands=hands, limit=0), [])

    def too_many(self, told, *handed, **named):
        with self.assertRaises(TooMany) as caught:
            schedule(*handed, **named)
        self.assertEqual(caught.exception.limit, told)

    def test_a_limit_that_is_just_enough_and_one_less(self):
        book, web = counts(), sum_web("mul", 2, 2)
        many = len(whole(book, web))
        for hands in (1, 2, 3, 100):
            for limit in (many, many + 1, 200):
                self.assertEqual(sum(map(len, schedule(book, web, hands=hands, limit=limit))), many)
            for limit in (0, 1, many - 1):
                self.too_many(limit, book, web, hands=hands, limit=limit)

    def test_two_hundred_and_one_more(self):
        book, web = many_pairs(200)
        names = [left for left, _ in ready(book, web)]
        self.assertEqual(schedule(book, web, hands=200), [names])
        self.assertEqual(schedule(book, web, hands=150), [names[:150], names[150:]])
        self.assertEqual(len(schedule(book, web)), 200)
        for hands in (1, 150, 300):
            self.too_many(199, book, web, hands=hands, limit=199)
            self.too_many(200, *many_pairs(201), hands=hands)

    def test_a_web_that_never_comes_to_rest(self):
        for limit in (0, 1, 200):
            self.too_many(limit, *endless(), limit=limit)

    def test_no_count(self):
        for world in (fork(), (counts(), Web(counts().kinds())), endless()):
            for thing in no_hands():
                self.assertRaises(NoCount, schedule, *world, hands=thing)
                self.assertRaises(NoCount, schedule, *world, hands=thing, limit=0)
            for thing in no_limits():
                self.assertRaises(NoCount, schedule, *world, limit=thing)

    def test_unlike_ahead_of_all_else(self):
        book, web = fork()
        pairs = [(book, thing) for thing in odd_things()] + [(thing, web) for thing in odd_things()]
        pairs += [(web, book), (book, Web(some_kinds())), (Book(some_kinds()), web), (book, Web(Kinds({})))]
        for one, other in pairs:
            self.assertRaises(Unlike, schedule, one, other)
            self.assertRaises(Unlike, schedule, one, other, hands=0, limit=None)
            for names in ([], None, Touchy(), [A, A]):
                self.assertRaises(Unlike, longest, one, other, names)

    def test_against_walking(self):
        seen = {}
        for seed in range(120):
            book, web = random_world(seed, 8, 4)
            for hands in (1, 2, 5):
                told = beats_by_walking(book, web, hands, 15)
                if told is None:
                    self.too_many(15, book, web, hands=hands, limit=15)
                else:
                    self.assertEqual(schedule(book, web, hands=hands, limit=15), told)
                    row = [who for beat in told for who in beat]
                    self.assertIs(is_row(book, web, row), True)
                    self.assertEqual(sorted(row), whole(book, web))
                seen[told is None or len(told)] = True
        self.assertEqual([many for many in (True, 0, 1, 2, 3, 4) if many not in seen], [])


class Longest(unittest.TestCase):
    def test_of_the_empty_heap(self):
        self.assertEqual(longest(*fork(), []), [])
        self.assertEqual(longest(*fork(), ()), [])

    def test_each_a_cause_of_the_next_one(self):
        book, web = fork()
        self.assertIn(longest(book, web, whos("e c a.0 a")), (whos("a a.0"), whos("c a.0")))
        self.assertIn(longest(book=book, web=web, names=whos("e c")), (whos("e"), whos("c")))
        book, web = counts(), sum_web("add", 3, 0)
        self.assertEqual(longest(book, web, whole(book, web)[::-1]), whos("a a.1 a.1.1 a.1.1.1"))

    def test_as_many_as_the_greatest_length(self):
        seen = {}
        for seed in range(100):
            book, web = random_world(seed, 8, 4)
            for heap in list(heaps_of(book, web, 20)[0])[::3]:
                names = sorted(heap)
                row = longest(book, web, tuple(names))
                self.assertIsInstance(row, list)
                self.assertEqual(len(row), max(lengths(book, web, names).values(), default=0))
                for one, other in zip(row, row[1:]):
                    self.assertIn(one, causes_of(book, web, names, other))
                self.assertTrue(set(row) <= heap)
                seen[len(row)] = True
        self.assertTrue(set(seen) >= {0, 1, 2, 3})

    def test_two_hundred(self):
        book, web = endless()
        names = [A + (0,) * many for many in range(200)]
        self.assertEqual(longest(book, web, names[::-1]), names)
        book, web = many_pairs(200)
        self.assertEqual(len(longest(book, web, whole(book, web))), 1)

    def test_no_heap(self):
        book, web = fork()
        for names, who in ((whos("a.0 a"), ("a", 0)), (whos("z b"), ("b",)), (whos("a a"), None), (None, None)):
            with self.assertRaises(NoHeap) as caught:
                longest(book, web, names)
            self.assertEqual(caught.exception.who, who)
        for thing in no_lists_of_whos():
            self.assertRaises(NoHeap, longest, book, web, thing)


class Bound(unittest.TestCase):
    def test_of_numbers(self):
        for many, length, hands, told in ((10, 4, 1, 10), (10, 4, 2, 7), (10, 4, 3, 6), (10, 4, 4, 5), (10, 4, 6, 5),
                                          (10, 4, 7, 4),
                                          (10, 10, 3, 10), (10, 1, 10, 1), (1, 1, 1, 1), (7, 0, 2, 3),
                                          (200, 1, 200, 1)):
            self.assertEqual(bound(many, length, hands), told)
            self.assertEqual(bound(many=many, length=length, hands=hands), told)
        self.assertEqual(bound(10 ** 29, 10 ** 28, 10 ** 29), 10 ** 28)
        self.assertEqual(bound(3, 1, 10 ** 29), 1)

    def test_of_none(self):
        for hands in (1, 2, 10 ** 29):
            self.assertEqual(bound(0, 0, hands), 0)

    def test_no_count(self):
        for many, length, hands in ((3, 4, 1), (0, 1, 1), (-1, -1, 1), (3, -1, 1), (-1, 0, 1), (3, 1, 0), (3, 1, -1),
                                    (0, 0, 0)):
            self.assertRaises(NoCount, bound, many, length, hands)
        for thing in odd_things():
            if isinstance(thing, bool) or not isinstance(thing, int):
                self.assertRaises(NoCount, bound, thing, 1, 1)
                self.assertRaises(NoCount, bound, 3, thing, 1)
                self.assertRaises(NoCount, bound, 3, 1, thing)
                self.assertRaises(NoCount, bound, thing, thing, thing)


class Promised(unittest.TestCase):
    def test_no_more_than_the_bound_and_no_fewer_than_the_longest_row(self):
        seen = 0
        worlds = [random_world(seed, 8, 4) for seed in range(150)]
        worlds += [(counts(), sum_web(word, one, other)) for word in ("add", "mul") for one in range(4) for other in range(4)]
        for book, web in worlds:
            if beats_by_walking(book, web, 1, 40) is None:
                continue
            names = whole(book, web)
            length = len(longest(book, web, names))
            for hands in (1, 2, 3, 4, 7):
                many = len(schedule(book, web, hands=hands))
                self.assertLessEqual(many, bound(len(names), length, hands))
                self.assertGreaterEqual(many, length)
                seen += length < many < bound(len(names), length, hands)
            self.assertEqual(len(schedule(book, web, hands=max(1, len(names)))), length)
            self.assertEqual(len(schedule(book, web)), len(names))
        self.assertGreater(seen, 5)


class Kept(unittest.TestCase):
    def test_what_is_told_may_be_changed(self):
        book, web = fork()
        text = web_text(web)
        beats = schedule(book, web, hands=2)
        self.assertIsNot(beats[0], beats[1])
        beats[0].clear()
        beats.clear()
        self.assertEqual(schedule(book, web, hands=2), [whos("a c"), whos("a.0 e")])
        names = whos("a")
        row = longest(book, web, names)
        self.assertIsNot(row, names)
        row.clear()
        self.assertEqual((longest(book, web, names), names), (whos("a"), whos("a")))
        longest(book, web, []).append(None)
        self.assertEqual(longest(book, web, []), [])
        self.assertEqual(web_text(web), text)


if __name__ == "__main__":
    unittest.main()
