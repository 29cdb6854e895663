"""Points 15 and 16: HEAPS, ROWS, THE row, WHOLE heaps. Point 4: THE SAME ONE, POURED, names have no bearing."""

import itertools
import random
import unittest

from onefacers.books import Book
from onefacers.errors import NoCount, NoHeap, TooMany, Unlike
from onefacers.heaps import MOST_MEETINGS, behind, is_heap, is_row, row_of, whole
from onefacers.kinds import Kinds
from onefacers.likeness import alike
from onefacers.meetings import is_still, met, ready
from onefacers.webs import Web
from onefacers.webtexts import web_text, who_text
from tests.things import Touchy, no_limits, no_lists_of_whos, odd_things, some_kinds
from tests.worlds import (Unfolded, book_in, counts, endless, heaps_of, many_pairs, random_world, sum_web, web_in, whos)

A = ("a",)
ADDED = "a a.1 a.1.1"

# The meetings of b and of c, at either side, are ready at once; d's comes of them.
TABLE = {"era": (), "one": (0,)}
RULES = ["one era: era: l1 0:0", "era era::"]


def fork():
    """A web in which a and c are ready, and a.0 meets c.0 behind them, as one facer."""
    book = book_in(TABLE, *RULES)
    return book, web_in(book.kinds(), "a one, b era, c one, d era", "a:0 b:0, c:0 d:0, a:1 c:1")


def refused(case, who, call, *handed, **named):
    with case.assertRaises(NoHeap) as caught:
        call(*handed, **named)
    case.assertEqual(caught.exception.who, who)
    case.assertIs(type(caught.exception.who), type(who))


class Heaps(unittest.TestCase):
    def test_the_empty_heap(self):
        book, web = fork()
        for names in ([], ()):
            self.assertIs(is_heap(book, web, names), True)
            self.assertIs(is_row(book, web, names), True)
            self.assertEqual(behind(book, web, names), web)
            self.assertEqual(row_of(book, web, names), [])

    def test_any_order(self):
        book, web = fork()
        self.assertEqual(ready(book, web), [tuple(whos("a b")), tuple(whos("c d"))])
        last = behind(book, web, whos("a c a.0"))
        self.assertEqual((last.facers(), last.ties()), ([], []))
        for row in itertools.permutations(whos("a c a.0")):
            for names in (row, list(row)):
                self.assertIs(is_heap(book, web, names), True)
                self.assertEqual(behind(book, web, names), last)
                self.assertEqual(row_of(book, web, names), whos("a c a.0"))
        for names in (whos("a"), whos("c"), whos("c a")):
            self.assertIs(is_heap(book, web, names), True)
        self.assertEqual(web_text(behind(book, web, whos("c"))),
                         "facer a one\nfacer b era\nfacer c.0 era\ntie a:0 b:0\ntie a:1 c.0:0\n")

    def test_what_can_not_be_done(self):
        book, web = fork()
        for text, who in (("b", "b"), ("d c", "d"), ("a.0", "a.0"), ("a a.0", "a.0"), ("c a.0", "a.0"), ("c.0", "c.0"),
                          ("a c c.0", "c.0"), ("a c a.0 a.0.0", "a.0.0"), ("e a", "e"), ("a a.1", "a.1"),
                          ("d b", "b"), ("z a.0 b", "a.0"), ("b a.0 a", "a.0"), ("c e.10 e.9 a", "e.9"),
                          ("a.0 b d z", "a.0"), ("c d b", "b"), ("a.0 c c.0", "a.0")):
            for names in (whos(text), tuple(whos(text)), whos(text)[::-1]):
                self.assertIs(is_heap(book, web, names), False)
                self.assertIs(is_row(book, web, names), False)
                refused(self, whos(who)[0], behind, book, web, names)
                refused(self, whos(who)[0], row_of, book, web, names)

    def test_a_who_told_twice(self):
        book, web = fork()
        for text in ("a a", "a c a", "z z", "a c a.0 c"):
            for names in (whos(text), tuple(whos(text))):
                self.assertIs(is_heap(book, web, names), False)
                self.assertIs(is_row(book, web, names), False)
                refused(self, None, behind, book, web, names)
                refused(self, None, row_of, book, web, names)

    def test_no_list_of_whos(self):
        book, web = fork()
        for thing in no_lists_of_whos():
            self.assertIs(is_heap(book, web, thing), False)
            self.assertIs(is_row(book, web, thing), False)
            refused(self, None, behind, book, web, thing)
            refused(self, None, row_of, book, web, thing)

    def test_truths_are_no_places(self):
        book = book_in(TABLE, *RULES)
        web = web_in(book.kinds(), "a.0 era, b era, a.1 era, c era", "a.0:0 b:0, a.1:0 c:0")
        self.assertIs(is_heap(book, web, [("a", 0), ("a", 1)]), True)
        for names in ([("a", False)], [("a", True)], [("a", 0), ("a", True)], [("a", 0), ("a", False)]):
            self.assertIs(is_heap(book, web, names), False)
            self.assertIs(is_row(book, web, names), False)
            refused(self, None, behind, book, web, names)

    def test_two_hundred_whos_and_one_more(self):
        book, web = many_pairs(201)
        names = [left for left, _ in ready(book, web)]
        self.assertEqual(len(names), 201)
        for row in (names[:200], names[1:], tuple(names[:0:-1])):
            self.assertIs(is_heap(book, web, row), True)
            self.assertIs(is_row(book, web, row), True)
            self.assertEqual(len(behind(book, web, row)), 2)
            self.assertEqual(row_of(book, web, row), sorted(row))
        for row in (names, tuple(names), [*names[:200], ("zz",)]):
            self.assertIs(is_heap(book, web, row), False)
            self.assertIs(is_row(book, web, row), False)
            refused(self, None, behind, book, web, row)
            refused(self, None, row_of, book, web, row)

    def test_meetings_one_behind_another(self):
        book, web = endless()
        names = [A + (0,) * count for count in range(201)]
        source = random.Random(1)
        row = names[:200]
        source.shuffle(row)
        self.assertIs(is_heap(book, web, row), True)
        self.assertEqual(row_of(book, web, row), names[:200])
        self.assertEqual(ready(book, behind(book, web, row)), [(names[200], A + (0,) * 199 + (1,))])
        self.assertIs(is_heap(book, web, names), False)
        refused(self, names[100], behind, book, web, names[:99] + names[100:150])
        refused(self, None, behind, book, web, names)

    def test_of_numbers(self):
        book, web = counts(), sum_web("add", 2, 1)
        self.assertEqual(row_of(book=book, web=web, names=whos("a.1.1 a a.1")), whos(ADDED))
        self.assertEqual(len(behind(book=book, web=web, names=whos(ADDED))), 4)
        self.assertIs(is_heap(book=book, web=web, names=whos("a.1 a")), True)
        self.assertIs(is_row(book=book, web=web, names=whos("a.1 a")), False)


class Rows(unittest.TestCase):
    def test_each_is_ready_in_its_turn(self):
        book, web = fork()
        for text, told in (("", True), ("a", True), ("c", True), ("a c", True), ("c a", True), ("a c a.0", True),
                           ("c a a.0", True), ("a a.0 c", False), ("a.0 a c", False), ("c a.0 a", False), ("b", False),
                           ("a a", False), ("a c a.0 a.0", False), ("a c a.0 c", False)):
            self.assertIs(is_row(book, web, whos(text)), told)
            self.assertIs(is_row(book, web, tuple(whos(text))), told)

    def test_the_least_that_is_ready_is_next(self):
        book = book_in(TABLE, *RULES)
        web = web_in(book.kinds(), "b one, c era, d one, e era, a era, f era", "b:0 c:0, b:1 a:0, d:0 e:0, d:1 f:0")
        # b's meeting makes a ready, which is lesser than d; that of d makes d.0 ready.
        self.assertEqual(row_of(book, web, whos("d d.0 b a")), whos("b a d d.0"))
        self.assertEqual(row_of(book, web, whos("a d b")), whos("b a d"))
        self.assertEqual(row_of(book, web, whos("d.0 d")), whos("d d.0"))
        self.assertEqual(whole(book, web), whos("a b d d.0"))


class Whole(unittest.TestCase):
    def too_many(self, told, *handed, **named):
        with self.assertRaises(TooMany) as caught:
            whole(*handed, **named)
        self.assertEqual(caught.exception.limit, told)

    def test_rising(self):
        self.assertEqual(whole(*fork()), whos("a a.0 c"))
        self.assertEqual(whole(counts(), sum_web("add", 2, 1)), whos(ADDED))
        self.assertEqual(whole(book=counts(), web=sum_web("add", 0, 1), limit=1), [A])
        still = behind(*fork(), whos("a a.0 c"))
        self.assertEqual(whole(fork()[0], still), [])

    def test_a_limit_that_is_just_enough_and_one_less(self):
        for one, other in ((0, 0), (2, 1), (3, 0)):
            book, web = counts(), sum_web("mul", one, other)
            many = len(whole(book, web))
            for limit in (many, many + 1, 200):
                self.assertEqual(len(whole(book, web, limit=limit)), many)
            for limit in (0, many - 1):
                self.too_many(limit, book, web, limit=limit)
        self.assertEqual(whole(counts(), Web(counts().kinds()), limit=0), [])

    def test_two_hundred_and_one_more(self):
        self.assertEqual(MOST_MEETINGS, 200)
        book, web = many_pairs(200)
        self.assertEqual(whole(book, web), [left for left, _ in ready(book, web)])
        self.too_many(199, book, web, limit=199)
        self.too_many(200, *many_pairs(201))
        self.too_many(200, *many_pairs(201), limit=200)

    def test_a_web_that_never_comes_to_rest(self):
        for limit in (0, 1, 7, 200):
            self.too_many(limit, *endless(), limit=limit)
        self.too_many(200, *endless())

    def test_no_limit(self):
        for thing in no_limits():
            self.assertRaises(NoCount, whole, *fork(), limit=thing)
            self.assertRaises(NoCount, whole, counts(), Web(counts().kinds()), limit=thing)

    def test_the_limit_by_its_name_alone(self):
        self.assertRaises(TypeError, whole, *fork(), 5)

    def test_nothing_is_ready_behind_it(self):
        for seed in range(120):
            book, web = random_world(seed, 8, 4)
            heaps, is_all = heaps_of(book, web, 30)
            if is_all:
                last = max(heaps, key=len)
                self.assertEqual(whole(book, web), sorted(last))
                self.assertEqual([len(heap) for heap, other in heaps.items() if not other.pairs()], [len(last)])
                self.assertIs(is_still(book, behind(book, web, whole(book, web))), True)


class Refused(unittest.TestCase):
    def test_unlike_ahead_of_all_else(self):
        book, web = counts(), sum_web("add", 1, 1)
        pairs = [(book, thing) for thing in odd_things()] + [(thing, web) for thing in odd_things()]
        pairs += [(Touchy(), Touchy()), (web, book), (book, Web(some_kinds())), (Book(some_kinds()), web),
                  (book, Web(Kinds({}))), (Book(Kinds({})), web)]
        for one, other in pairs:
            for call in (is_heap, is_row, behind, row_of):
                for names in ([], [A], None, 5, Touchy(), [A, A]):
                    self.assertRaises(Unlike, call, one, other, names)
            self.assertRaises(Unlike, whole, one, other)
            self.assertRaises(Unlike, whole, one, other, limit=None)
            self.assertRaises(Unlike, whole, one, other, limit=0)

    def test_no_count_ahead_of_too_many(self):
        self.assertRaises(NoCount, whole, *endless(), limit=True)


class OneWeb(unittest.TestCase):
    def test_against_walking(self):
        seen = 0
        for seed in range(120):
            book, web = random_world(seed, 8, 4)
            heaps, _ = heaps_of(book, web, 30)
            source = random.Random(seed)
            for heap, other in heaps.items():
                names = sorted(heap)
                source.shuffle(names)
                self.assertIs(is_heap(book, web, names), True)
                self.assertEqual(behind(book, web, names), other.web())
                row = row_of(book, web, names)
                self.assertEqual(row, least_row(book, web, names))
                self.assertIs(is_row(book, web, row), True)
                self.assertIs(is_row(book, web, names), can_go(book, web, names))
                seen += len(names) > 2
        self.assertGreater(seen, 500)

    def test_heaps_are_just_these(self):
        seen = {True: 0, False: 0}
        for seed in range(200):
            book, web = random_world(seed, 8, 3)
            heaps, is_all = heaps_of(book, web, 40)
            if not is_all:
                continue
            names = sorted({who for heap in heaps for who in heap} | {("a",), ("z", 3)})
            source = random.Random(seed)
            for _ in range(20):
                some = source.sample(names, source.randrange(len(names) + 1))
                told = frozenset(some) in heaps
                seen[told] += 1
                self.assertIs(is_heap(book, web, some), told)
                if not told:
                    most = max([heap for heap in heaps if heap <= set(some)], key=len)
                    refused(self, min(set(some) - most), behind, book, web, some)
        self.assertGreater(min(seen.values()), 300)

    def test_whoever_meets_meets_the_same_one(self):
        for seed in range(80):
            book, web = random_world(seed, 8, 4)
            others = {}
            for heap, unfolded in heaps_of(book, web, 30)[0].items():
                for left, right in unfolded.pairs():
                    self.assertEqual(others.setdefault(left, right), right)
                    self.assertEqual(others.setdefault(right, left), left)

    def test_in_either_and_in_both_of_two_heaps(self):
        seen = 0
        for seed in range(120):
            book, web = random_world(seed, 8, 4)
            heaps = list(heaps_of(book, web, 30)[0])
            for one, other in itertools.combinations(heaps[::2], 2):
                self.assertIs(is_heap(book, web, sorted(one | other)), True)
                self.assertIs(is_heap(book, web, sorted(one & other)), True)
                seen += not (one <= other or other <= one)
        self.assertGreater(seen, 500)

    def test_in_either_no_more_than_two_hundred(self):
        book, web = many_pairs(201)
        names = [left for left, _ in ready(book, web)]
        self.assertIs(is_heap(book, web, names[:120]), True)
        self.assertIs(is_heap(book, web, names[100:]), True)
        self.assertIs(is_heap(book, web, names), False)

    def test_all_ways_of_working_end_in_one_web(self):
        book, web = counts(), sum_web("mul", 2, 2)
        names = whole(book, web)
        last = behind(book, web, names)
        for seed in range(20):
            source = random.Random(seed)
            row, here = [], web
            while not is_still(book, here):
                row.append(source.choice(ready(book, here))[0])
                here = met(book, here, row[-1])
            self.assertEqual(here, last)
            self.assertEqual(sorted(row), names)
            self.assertIs(is_row(book, web, row), True)

    def test_names_have_no_bearing(self):
        for seed in range(60):
            book, web = random_world(seed, 8, 4)
            names = [who for who, _ in web.facers()]
            goals = [("z", number) for number in range(len(names))]
            random.Random(seed).shuffle(goals)
            to = {((), None): None, **dict(zip(names, goals))}

            def led(end):
                return end if end[0] == () else (to[end[0]], end[1])
            other = Web(web.kinds(), [(to[who], word) for who, word in web.facers()],
                        [(led(one), led(mate)) for one, mate in web.ties()])
            if not heaps_of(book, web, 30)[1]:
                self.assertRaises(TooMany, whole, book, other, limit=3)
                continue
            one, two = whole(book, web), whole(book, other)
            self.assertEqual(len(one), len(two))
            self.assertTrue(alike(behind(book, web, one), behind(book, other, two)))


def can_go(book, web, names):
    """Whether these are done in this order, by walking."""
    other = Unfolded(book, web)
    for who in names:
        if who not in other.lefts():
            return False
        other.do(who)
    return True


def least_row(book, web, names):
    """THE row, by walking."""
    other = Unfolded(book, web)
    row = []
    while len(row) < len(names):
        row.append(min(who for who in other.lefts() if who in names))
        other.do(row[-1])
    return row


class Kept(unittest.TestCase):
    def test_what_is_handed_in_stays(self):
        book, web = fork()
        names = whos("c a.0 a")
        for call in (is_heap, is_row, behind, row_of):
            call(book, web, names)
            self.assertEqual(names, whos("c a.0 a"))
        self.assertEqual((book, web), fork())
        row = row_of(book, web, names)
        self.assertIsNot(row, names)
        row.clear()
        names.pop()
        self.assertEqual(row_of(book, web, whos("c a.0 a")), whos("a c a.0"))

    def test_what_is_done_later_changes_no_answer(self):
        book, web = fork()
        names = whos("a")
        last = behind(book, web, names)
        text = web_text(last)
        names.append(("c",))
        last.facers().clear()
        self.assertEqual(web_text(last), text)
        told = whole(book, web)
        told.clear()
        self.assertEqual(whole(book, web), whos("a a.0 c"))

    def test_what_came_back_may_be_handed_in(self):
        book, web = counts(), sum_web("mul", 3, 3)
        row = row_of(book, web, whole(book, web))
        half = behind(book, web, row[:len(row) // 2])
        self.assertIs(is_row(book, half, row[len(row) // 2:]), True)
        self.assertEqual(behind(book, half, row[len(row) // 2:]), behind(book, web, row))
        self.assertTrue(all(who_text(who).startswith("a") for who in row))

    def test_what_has_grown_great(self):
        book = book_in({"six": (0,) * 6, "seed": (0,)}, "seed seed: " + "seed " * 12 + ": l1 0:0, r1 6:0, "
                       + ", ".join(f"{place}:1 {place + 1}:0" for place in range(5)) + ", 5:1 11:1, "
                       + ", ".join(f"{place}:1 {place + 1}:0" for place in range(6, 11)))
        web = web_in(book.kinds(), "a seed, b seed", "a:0 b:0, a:1 :p, b:1 :q")
        last = behind(book, web, whole(book, web))
        self.assertEqual(len(last), 12)
        self.assertEqual(Web(last.kinds(), last.facers(), last.ties()), last)


if __name__ == "__main__":
    unittest.main()
