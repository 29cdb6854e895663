"""Points 21 and 22: COPIES, what STANDS and WAITS, deeds, COMMON. Point 4: THE SAME ONE, POURED, NEED, at copies."""

import random
import unittest

from onefacers.books import Book
from onefacers.causes import causes_of
from onefacers.copies import Copy
from onefacers.errors import Caused, NoCount, NoHeap, NoMeeting, TooMany, Unlike
from onefacers.heaps import behind, is_heap, whole
from onefacers.kinds import Kinds
from onefacers.meetings import ready
from onefacers.needs import need
from onefacers.webs import Web
from onefacers.webtexts import web_text
from tests.cases import Case
from tests.things import Touchy, no_limits, no_lists_of_whos, odd_things, some_kinds
from tests.worlds import (FORK, RULES, Unfolded, book_in, counts, endless, fork, heaps_of, many_pairs, random_world,
                          sum_web, web_in, whos)

A = ("a",)


def row_web(many):
    """One behind another: b's meeting makes c's ready, and so on."""
    book = book_in(FORK, *RULES)
    names = "abcdefghijklmnopqrstuvwxyz"[:many]
    facers = [f"{name} one" for name in names]
    ties = [f"{one}:1 {other}:0" for one, other in zip(names, names[1:])]
    return book, web_in(book.kinds(), ", ".join(["za era", *facers]), ", ".join([f"za:0 a:0, {names[-1]}:1 :out", *ties]))


def pairs_and_names(many):
    book, web = many_pairs(many)
    return book, web, [left for left, _ in ready(book, web)]


def state(copy):
    return (copy.book(), copy.first(), copy.web(), copy.heap(), copy.waits(), copy.ready(), len(copy), str(copy))


class New(Case):
    def test_nothing_stands_and_nothing_waits(self):
        book, web = fork()
        for copy in (Copy(book, web), Copy(book=book, web=web)):
            self.assertEqual(copy.book(), book)
            self.assertEqual(copy.first(), web)
            self.assertEqual(copy.web(), web)
            self.assertEqual((copy.heap(), copy.waits()), ([], []))
            self.assertEqual(copy.ready(), ready(book, web))
            self.assertEqual((len(copy), str(copy)), (0, ""))

    def test_unlike(self):
        book, web = fork()
        pairs = [(book, thing) for thing in odd_things()] + [(thing, web) for thing in odd_things()]
        pairs += [(web, book), (book, Web(some_kinds())), (Book(some_kinds()), web), (book, Web(Kinds({}))),
                  (counts(), web)]
        for one, other in pairs:
            self.refused(Unlike, {}, Copy, one, other)


class Meet(Case):
    def test_what_is_ready(self):
        book, web = fork()
        copy = Copy(book, web)
        self.assertEqual(copy.meet(("c",)), whos("c"))
        self.assertEqual(copy.meet(who=A), whos("a"))
        self.assertEqual(copy.ready(), [tuple(whos("a.0 c.0")), tuple(whos("e f"))])
        self.assertEqual(copy.heap(), whos("a c"))
        self.assertEqual((len(copy), str(copy)), (2, "a c"))
        self.assertEqual(copy.web(), behind(book, web, whos("a c")))
        self.assertEqual(copy.first(), web)
        self.assertEqual(copy.meet(("a", 0)), whos("a.0"))
        self.assertEqual(str(copy), "a a.0 c")

    def test_no_meeting(self):
        copy = Copy(*fork())
        copy.meet(A)
        copy.hear(whos("a.0"))
        ahead = state(copy)
        # What stands, who is right, who waits for another one, who isn't there, who is none.
        for text in ("a", "b", "d", "a.0", "c.0", "f", "z", "a.1", "e.0"):
            who = whos(text)[0]
            self.refused(NoMeeting, {"who": who}, copy.meet, who)
        for thing in odd_things():
            self.refused(NoMeeting, {"who": thing}, copy.meet, thing)
        self.assertEqual(state(copy), ahead)

    def test_truths_are_no_places(self):
        book = book_in(FORK, *RULES)
        copy = Copy(book, web_in(book.kinds(), "a.0 era, b era, a.1 era, c era", "a.0:0 b:0, a.1:0 c:0"))
        for who in (("a", False), ("a", True)):
            self.refused(NoMeeting, {"who": who}, copy.meet, who)
        copy.meet(("a", 0))
        for who in (("a", False), ("a", True)):
            self.refused(NoMeeting, {"who": who}, copy.back, who)
        self.refused(NoHeap, {"who": None}, copy.hear, [("a", True)])

    def test_two_hundred_stand(self):
        book, web, names = pairs_and_names(202)
        copy = Copy(book, web)
        copy.hear(names[:199])
        self.assertEqual(len(copy), 199)
        self.assertEqual(copy.meet(names[201]), [names[201]])
        self.assertEqual(len(copy), 200)
        ahead = state(copy)
        self.refused(TooMany, {"limit": 200}, copy.meet, names[199])
        for thing in (names[0], names[201], ("z",), None):
            self.refused(NoMeeting, {"who": thing}, copy.meet, thing)
        self.assertEqual(state(copy), ahead)

    def test_what_waits_is_done_behind_it(self):
        copy = Copy(*fork())
        self.assertEqual(copy.hear(whos("a.0 z c")), whos("c"))
        self.assertEqual(copy.waits(), whos("a.0 z"))
        self.assertEqual(copy.meet(A), whos("a a.0"))
        self.assertEqual(copy.waits(), whos("z"))


class MeetAll(Case):
    def test_till_nothing_is_ready(self):
        book, web = fork()
        copy = Copy(book, web)
        copy.meet(("c",))
        self.assertEqual(copy.meet_all(), whos("a a.0 e"))
        self.assertEqual(copy.heap(), whole(book, web))
        self.assertEqual((copy.ready(), copy.meet_all()), ([], []))
        self.assertEqual(copy.web(), behind(book, web, whole(book, web)))

    def test_what_waits_stands_then(self):
        copy = Copy(*fork())
        copy.hear(whos("z a.0"))
        self.assertEqual(copy.meet_all(), whos("a a.0 c e"))
        self.assertEqual(copy.waits(), whos("z"))

    def test_a_limit_that_is_just_enough_and_one_less(self):
        book, web = fork()
        for some in ("", "c", "a c", "a c a.0"):
            copy = Copy(book, web)
            copy.hear(whos(some))
            ahead = state(copy)
            for limit in (0, len(copy), 3):
                self.refused(TooMany, {"limit": limit}, copy.meet_all, limit=limit)
                self.assertEqual(state(copy), ahead)
            self.assertEqual(len(copy.meet_all(limit=4)), 4 - len(whos(some)))

    def test_where_nothing_is_ready(self):
        copy = Copy(*fork())
        copy.hear(whos("z"))
        copy.meet_all()
        ahead = state(copy)
        for limit in (0, 1, 3, 4, 200):
            self.assertEqual(copy.meet_all(limit=limit), [])
        self.assertEqual(state(copy), ahead)
        self.assertEqual(Copy(counts(), Web(counts().kinds())).meet_all(limit=0), [])

    def test_all_told_two_hundred_and_one_more(self):
        book, web, names = pairs_and_names(200)
        copy = Copy(book, web)
        copy.hear(names[:120])
        self.refused(TooMany, {"limit": 199}, copy.meet_all, limit=199)
        self.refused(TooMany, {"limit": 80}, copy.meet_all, limit=80)
        self.assertEqual(copy.meet_all(limit=200), names[120:])
        book, web, names = pairs_and_names(201)
        for many in (0, 120, 200):
            copy = Copy(book, web)
            copy.hear(names[:many])
            self.refused(TooMany, {"limit": 200}, copy.meet_all)
            self.assertEqual(copy.heap(), names[:many])

    def test_a_web_that_never_comes_to_rest(self):
        copy = Copy(*endless())
        copy.meet(A)
        ahead = state(copy)
        for limit in (0, 1, 2, 200):
            self.refused(TooMany, {"limit": limit}, copy.meet_all, limit=limit)
            self.assertEqual(state(copy), ahead)

    def test_no_count(self):
        for copy in (Copy(*fork()), Copy(*endless()), Copy(counts(), Web(counts().kinds()))):
            ahead = state(copy)
            for thing in no_limits():
                self.refused(NoCount, {}, copy.meet_all, limit=thing)
            self.assertEqual(state(copy), ahead)

    def test_the_limit_by_its_name_alone(self):
        self.assertRaises(TypeError, Copy(*fork()).meet_all, 5)


class Hear(Case):
    def test_of_nothing(self):
        for names in ([], ()):
            copy = Copy(*fork())
            self.assertEqual(copy.hear(names), [])
            self.assertEqual(state(copy), state(Copy(*fork())))

    def test_in_any_order_and_twice(self):
        for names in (whos("a.0 c a"), tuple(whos("c a a.0")), whos("a a.0 a c a.0 a.0"), whos("c c c a.0 a")):
            copy = Copy(*fork())
            self.assertEqual(copy.hear(names=names), whos("a a.0 c"))
            self.assertEqual(copy.waits(), [])

    def test_what_stands_is_passed_by(self):
        copy = Copy(*fork())
        copy.hear(whos("a c"))
        self.assertEqual(copy.hear(whos("c a e a")), whos("e"))
        self.assertEqual(copy.hear(whos("c a e a")), [])
        self.assertEqual((copy.heap(), copy.waits()), (whos("a c e"), []))

    def test_names_that_wait_and_names_of_nobody(self):
        copy = Copy(*fork())
        self.assertEqual(copy.hear(whos("z a.0 b a.1.2 a.0 f")), [])
        self.assertEqual(copy.waits(), whos("a.0 a.1.2 b f z"))
        self.assertEqual(copy.hear(whos("c")), whos("c"))
        self.assertEqual(copy.hear(whos("a b")), whos("a a.0"))
        self.assertEqual(copy.waits(), whos("a.1.2 b f z"))
        self.assertEqual(str(copy), "a a.0 c")

    def test_the_least_first_one_after_the_other(self):
        # Just one more may stand; c, e and x wait; c's meeting makes b ready, which is lesser than e.
        book, _, names = pairs_and_names(199)
        book = book_in({"ping": (), "era": (), "one": (0,)}, "ping ping::", *RULES)
        pairs = [f"p{who[0][:2]}{side} ping" for who in names for side in "xy"]
        ties = [f"p{who[0][:2]}x:0 p{who[0][:2]}y:0" for who in names]
        web = web_in(book.kinds(), ", ".join([*pairs, "b one, c one, d era, e era, f era, x era, y era"]),
                     ", ".join([*ties, "c:0 d:0, c:1 b:0, b:1 :out, e:0 f:0, x:0 y:0"]))
        lefts = [left for left, _ in ready(book, web) if left[0][0] == "p"]
        self.assertEqual(len(lefts), 199)
        for many, told, waits in ((199, "c", "b e x"), (198, "b c", "e x"), (197, "b c e", "x"), (196, "b c e x", "")):
            copy = Copy(book, web)
            copy.hear(lefts[:many])
            self.assertEqual(copy.hear(whos("x e b c")), whos(told))
            self.assertEqual(copy.waits(), whos(waits))
            self.assertEqual(len(copy), min(200, many + 4))

    def test_as_long_as_fewer_than_two_hundred_stand(self):
        book, web, names = pairs_and_names(204)
        for some in (names, names[::-1], tuple(names)):
            copy = Copy(book, web)
            self.assertEqual(copy.hear(some), names[:200])
            self.assertEqual((copy.heap(), copy.waits()), (names[:200], names[200:]))
            self.assertEqual(copy.hear(names), [])
            self.assertEqual(copy.hear([("zz",)]), [])
            self.assertEqual(copy.waits(), names[200:] + [("zz",)])
            self.assertEqual(copy.ready(), [(left, (left[0][:-1] + "y",)) for left in names[200:]])

    def test_no_heap(self):
        copy = Copy(*fork())
        copy.hear(whos("a a.0"))
        ahead = state(copy)
        for thing in no_lists_of_whos():
            self.refused(NoHeap, {"who": None}, copy.hear, thing)
        self.assertEqual(state(copy), ahead)


class Pour(Case):
    def test_what_stands_at_another_copy(self):
        book, web = fork()
        one, other = Copy(book, web), Copy(book, web)
        one.hear(whos("a e"))
        other.hear(whos("c e z"))
        ahead = state(other)
        self.assertEqual(one.common(other), whos("e"))
        self.assertEqual(one.pour(other), whos("c"))
        self.assertEqual((one.heap(), one.waits()), (whos("a c e"), []))
        self.assertEqual(state(other), ahead)
        self.assertEqual(one.meet(("a", 0)), whos("a.0"))
        self.assertEqual(other.pour(other=one), whos("a a.0"))
        self.assertEqual(one.common(other=other), whos("a a.0 c e"))
        self.assertNotEqual(one, other)

    def test_what_waits_is_done_behind_it(self):
        book, web = fork()
        one, other = Copy(book, web), Copy(book, web)
        one.hear(whos("a.0 a"))
        other.meet(("c",))
        self.assertEqual(one.pour(other), whos("a.0 c"))

    def test_into_itself(self):
        copy = Copy(*fork())
        copy.hear(whos("c a.0"))
        ahead = state(copy)
        self.assertEqual(copy.pour(copy), [])
        self.assertEqual(copy.common(copy), whos("c"))
        self.assertEqual(state(copy), ahead)

    def test_into_itself_does_what_waits(self):
        book, web, names = pairs_and_names(201)
        copy = Copy(book, web)
        copy.hear(names)
        copy.back(names[7])
        self.assertEqual(copy.waits(), names[200:])
        self.assertEqual(copy.pour(copy), names[200:])

    def test_of_equal_books_and_webs_made_apart(self):
        one, other = Copy(*fork()), Copy(*fork())
        self.assertIsNot(one.book(), other.book())
        other.meet(("e",))
        self.assertEqual(one.pour(other), whos("e"))
        self.assertEqual(one, other)

    def test_more_than_two_hundred(self):
        book, web, names = pairs_and_names(204)
        one, other = Copy(book, web), Copy(book, web)
        one.hear(names[:150])
        other.hear(names[100:])
        self.assertEqual(one.pour(other), names[150:200])
        self.assertEqual((one.heap(), one.waits()), (names[:200], names[200:]))
        self.assertEqual(one.common(other), names[100:200])

    def test_unlike(self):
        book, web = fork()
        copy = Copy(book, web)
        copy.hear(whos("a a.0"))
        ahead = state(copy)
        less = book_in(FORK, RULES[0])
        renamed = web_in(book.kinds(), "a one, b era, c one, d era, e era, g era", "a:0 b:0, c:0 d:0, a:1 c:1, e:0 g:0")
        others = [Copy(less, web), Copy(book, renamed), Copy(book, copy.web()), Copy(book, Web(book.kinds())),
                  Copy(counts(), Web(counts().kinds())), book, web, *odd_things()]
        for other in others:
            self.refused(Unlike, {}, copy.pour, other)
            self.refused(Unlike, {}, copy.common, other)
        for other in others[:5]:
            self.refused(Unlike, {}, other.pour, copy)
            self.refused(Unlike, {}, other.common, copy)
        self.assertEqual(state(copy), ahead)


class Back(Case):
    def test_what_causes_nothing_that_stands(self):
        book, web = fork()
        copy = Copy(book, web)
        copy.hear(whos("a c a.0 e"))
        for text in ("e", "a.0", "a"):
            self.assertIsNone(copy.back(whos(text)[0]))
        self.assertEqual((copy.heap(), copy.waits()), (whos("c"), []))
        self.assertEqual(copy.web(), behind(book, web, whos("c")))
        self.assertIsNone(copy.back(who=("c",)))
        self.assertEqual(state(copy), state(Copy(book, web)))

    def test_done_again(self):
        copy = Copy(*fork())
        copy.hear(whos("a c a.0"))
        copy.back(("a", 0))
        self.assertEqual(copy.ready(), [tuple(whos("a.0 c.0")), tuple(whos("e f"))])
        self.assertEqual(copy.meet(("a", 0)), whos("a.0"))
        copy.back(("a", 0))
        self.assertEqual(copy.hear(whos("a.0")), whos("a.0"))

    def test_no_meeting(self):
        copy = Copy(*fork())
        copy.hear(whos("a c a.0 z"))
        copy.back(("a", 0))
        ahead = state(copy)
        # What is ready, what was taken back, what waits, who met as right one, who isn't there, who is none.
        for text in ("e", "a.0", "z", "b", "d", "f", "c.0", "y", "a.1"):
            who = whos(text)[0]
            self.refused(NoMeeting, {"who": who}, copy.back, who)
        for thing in odd_things():
            self.refused(NoMeeting, {"who": thing}, copy.back, thing)
        self.assertEqual(state(copy), ahead)

    def test_caused_with_the_least(self):
        copy = Copy(*fork())
        copy.hear(whos("a c a.0 e"))
        ahead = state(copy)
        for text in ("a", "c"):
            self.refused(Caused, {"by": ("a", 0)}, copy.back, whos(text)[0])
        self.assertEqual(state(copy), ahead)
        copy = Copy(*row_web(5))
        copy.meet_all()
        for text, by in (("a", "b"), ("b", "c"), ("c", "d"), ("d", "e")):
            self.refused(Caused, {"by": whos(by)[0]}, copy.back, whos(text)[0])

    def test_caused_by_one_that_is_lesser(self):
        book = book_in(FORK, *RULES)
        web = web_in(book.kinds(), "a one, b one, c one, d era, e one", "c:0 d:0, c:1 b:0, b:1 a:0, a:1 e:0, e:1 :out")
        copy = Copy(book, web)
        copy.meet_all()
        self.assertEqual(copy.heap(), whos("a b c e"))
        for text, by in (("c", "a"), ("b", "a"), ("a", "e")):
            self.refused(Caused, {"by": whos(by)[0]}, copy.back, whos(text)[0])
        copy.back(("e",))
        copy.back(("a",))
        self.refused(Caused, {"by": ("b",)}, copy.back, ("c",))

    def test_what_waits_is_no_effect(self):
        copy = Copy(*fork())
        copy.hear(whos("a a.0"))
        self.assertIsNone(copy.back(A))
        self.assertEqual((copy.heap(), copy.waits()), ([], whos("a.0")))

    def test_nothing_is_done_behind_it_but_at_the_next_deed(self):
        book, web, names = pairs_and_names(203)
        deeds = ((lambda copy: copy.hear([]), 0), (lambda copy: copy.hear(()), 0),
                 (lambda copy: copy.hear([("z",)]), 0),
                 (lambda copy: copy.pour(copy), 0), (lambda copy: copy.hear(names[:1]), 0),
                 (lambda copy: copy.pour(Copy(book, web)), 0), (lambda copy: copy.meet(names[202]), 2))
        for deed, least in deeds:
            copy = Copy(book, web)
            copy.hear(names[:202])
            self.assertEqual(copy.waits(), names[200:202])
            copy.back(names[5])
            self.assertEqual((len(copy), copy.waits()), (199, names[200:202]))
            self.assertIn(names[200], [left for left, _ in copy.ready()])
            self.assertEqual(deed(copy), [names[200 + least]])
            self.assertEqual(len(copy), 200)
            self.assertEqual(copy.waits()[0], names[201 if least == 0 else 200])
        copy = Copy(book, web)
        copy.hear(names[:202])
        for who in names[:3]:
            copy.back(who)
        self.refused(TooMany, {"limit": 200}, copy.meet_all)
        self.assertEqual(len(copy), 197)
        self.assertEqual(copy.meet(names[202]), names[200:])


class Equal(Case):
    def test_books_first_webs_heaps_and_what_waits(self):
        book, web = fork()
        one, other = Copy(book, web), Copy(*fork())
        self.assertTrue(one == other)
        self.assertFalse(one != other)
        one.hear(whos("a c"))
        self.assertFalse(one == other)
        self.assertTrue(one != other)
        other.meet(("c",))
        other.meet(A)
        self.assertTrue(one == other)
        one.hear(whos("z b"))
        self.assertFalse(one == other)
        other.hear(whos("b z"))
        self.assertTrue(one == other)

    def test_what_once_stood_has_no_bearing(self):
        one, other = Copy(*fork()), Copy(*fork())
        one.meet(("e",))
        one.back(("e",))
        self.assertTrue(one == other)

    def test_unlike_ones(self):
        book, web = fork()
        less = book_in(FORK, RULES[0])
        self.assertNotEqual(Copy(book, web), Copy(less, web))
        self.assertNotEqual(Copy(book, web), Copy(book, Web(book.kinds())))
        # The web behind what stands is equal, the first one isn't.
        one = Copy(book, web)
        one.meet(A)
        self.assertNotEqual(one, Copy(book, one.web()))
        self.assertEqual(one.web(), Copy(book, one.web()).web())

    def test_anything_else(self):
        copy = Copy(*fork())
        for thing in [*odd_things(), copy.book(), copy.web(), copy.heap(), str(copy)]:
            if not isinstance(thing, Touchy) and thing.__class__.__name__ != "Agreeing":
                self.assertFalse(copy == thing)
                self.assertTrue(copy != thing)
            self.assertIs(Copy.__eq__(copy, thing), False)


class Copied(Case):
    def test_alike_and_apart(self):
        copy = Copy(*fork())
        copy.hear(whos("a z a.0"))
        twin = copy.copied()
        self.assertIsInstance(twin, Copy)
        self.assertEqual(twin, copy)
        self.assertEqual(state(twin), state(copy))
        ahead = state(copy)
        twin.meet(("c",))
        twin.hear(whos("y"))
        again = twin.copied()
        again.back(("a", 0))
        again.meet_all()
        self.assertEqual(state(copy), ahead)
        self.assertEqual((twin.heap(), twin.waits()), (whos("a a.0 c"), whos("y z")))
        self.assertEqual((again.heap(), again.waits()), (whos("a a.0 c e"), whos("y z")))
        copy.back(A)
        self.assertEqual(twin.heap(), whos("a a.0 c"))

    def test_what_waits_and_is_ready_is_not_done(self):
        book, web, names = pairs_and_names(201)
        copy = Copy(book, web)
        copy.hear(names)
        copy.back(names[0])
        twin = copy.copied()
        self.assertEqual((twin.heap(), twin.waits()), (names[1:200], names[200:]))
        self.assertEqual(twin.hear([]), names[200:])
        self.assertEqual(copy.waits(), names[200:])


class Model:
    """A copy as the document tells it, by walking."""

    def __init__(self, book, web):
        self.world = (book, web)
        self.row = []
        self.waiting = set()

    def unfolded(self):
        return Unfolded(*self.world, self.row)

    def done(self, lefts):
        """Does those that are told, then what waits, and tells what is new."""
        many = len(self.row)
        self.row += lefts
        while True:
            self.waiting -= set(self.row)
            due = self.waiting & set(self.unfolded().lefts())
            if not due:
                return sorted(self.row[many:])
            self.row.append(min(due))

    def meet(self, who):
        return self.done([who]) if who in self.unfolded().lefts() else NoMeeting

    def meet_all(self, limit):
        other, row = self.unfolded(), []
        while other.lefts():
            row.append(other.lefts()[0])
            if len(self.row) + len(row) > limit:
                return TooMany
            other.do(row[-1])
        return self.done(row)

    def hear(self, names):
        self.waiting |= set(names) - set(self.row)
        return self.done([])

    def back(self, who):
        if who not in self.row:
            return NoMeeting
        rest = [one for one in self.row if one != who]
        other, kept = Unfolded(*self.world), []
        while set(other.lefts()) & set(rest) - set(kept):
            kept.append(min(set(other.lefts()) & set(rest) - set(kept)))
            other.do(kept[-1])
        if len(kept) < len(rest):
            return Caused, min(set(rest) - set(kept))
        self.row = kept
        return None


def tried(call, *handed, **named):
    try:
        return call(*handed, **named)
    except Caused as refusal:
        return Caused, refusal.by
    except (NoMeeting, TooMany) as refusal:
        return type(refusal)


class AgainstWalking(unittest.TestCase):
    def deed(self, source, names, copies, models):
        at, other = source.randrange(len(copies)), source.randrange(len(copies))
        copy, model = copies[at], models[at]
        kind = source.choice(["meet", "meet", "hear", "hear", "pour", "back", "back", "all"])
        if kind == "all":
            limit = source.randrange(8)
            return kind, tried(copy.meet_all, limit=limit), model.meet_all(limit)
        if kind == "pour":
            return kind, copy.pour(copies[other]), model.hear(models[other].row)
        if kind == "hear":
            some = [source.choice(names) for _ in range(source.randrange(4))]
            return kind, copy.hear(some), model.hear(some)
        lefts = [left for left, _ in copy.ready()] + copy.heap() + [source.choice(names)]
        who = source.choice(lefts)
        if kind == "meet":
            return kind, tried(copy.meet, who), model.meet(who)
        return kind, tried(copy.back, who), model.back(who)

    def test_any_deeds(self):
        seen = {}
        for seed in range(150):
            book, web = random_world(seed, 8, 3)
            source = random.Random(seed)
            names = sorted({who for heap in heaps_of(book, web, 25)[0] for who in heap}) + whos("z a b.3")
            copies, models = [Copy(book, web) for _ in range(3)], [Model(book, web) for _ in range(3)]
            for _ in range(25):
                kind, told, meant = self.deed(source, names, copies, models)
                self.assertEqual(told, meant, (seed, kind))
                seen[kind, type(told), bool(told)] = seen.get((kind, type(told), bool(told)), 0) + 1
                for copy, model in zip(copies, models):
                    self.assertEqual(copy.heap(), sorted(model.row))
                    self.assertEqual(copy.waits(), sorted(model.waiting))
                    self.assertEqual(copy.ready(), model.unfolded().pairs())
                    self.assertEqual(copy.web(), model.unfolded().web())
                self.assertEqual(copies[0] == copies[1],
                                 set(models[0].row) == set(models[1].row) and models[0].waiting == models[1].waiting)
        self.assertGreater(min(seen.values()), 10)
        self.assertEqual(len(seen), 12)


class Promised(unittest.TestCase):
    """Point 4, as far as copies go."""

    def test_whoever_does_whatever_comes_to_one_web(self):
        book, web = counts(), sum_web("mul", 2, 2)
        last = behind(book, web, whole(book, web))
        for seed in range(10):
            source = random.Random(seed)
            copies = [Copy(book, web) for _ in range(3)]
            while any(copy.ready() for copy in copies):
                copy = source.choice(copies)
                if copy.ready():
                    copy.meet(source.choice(copy.ready())[0])
                if source.random() < 0.3:
                    copy.pour(source.choice(copies))
                if source.random() < 0.2 and len(copy):
                    copy.hear([source.choice(whole(book, web)) for _ in range(3)])
            for copy in copies:
                self.assertEqual((copy.web(), copy.heap()), (last, whole(book, web)))

    def test_poured_into_each_other_both_have_what_either_had(self):
        seen = 0
        for seed in range(100):
            book, web = random_world(seed, 8, 4)
            heaps = list(heaps_of(book, web, 12)[0])
            source = random.Random(seed)
            for _ in range(6):
                left, right = source.choice(heaps), source.choice(heaps)
                one, other = Copy(book, web), Copy(book, web)
                one.hear(sorted(left))
                other.hear(sorted(right))
                self.assertEqual(one.common(other), sorted(left & right))
                self.assertIs(is_heap(book, web, one.common(other)), True)
                self.assertEqual(one.pour(other), sorted(right - left))
                self.assertEqual(other.pour(one), sorted(left - right))
                self.assertEqual(one.heap(), sorted(left | right))
                self.assertEqual(one, other)
                seen += bool(left - right and right - left)
        self.assertGreater(seen, 50)

    def test_what_causes_nothing_may_be_taken_back(self):
        seen = {True: 0, False: 0}
        for seed in range(60):
            book, web = random_world(seed, 8, 4)
            for heap in list(heaps_of(book, web, 15)[0])[1:]:
                copy = Copy(book, web)
                copy.hear(sorted(heap))
                for who in sorted(heap):
                    caused = [one for one in sorted(heap) if who in causes_of(book, web, sorted(heap), one)]
                    told = tried(copy.copied().back, who)
                    self.assertEqual(told, (Caused, caused[0]) if caused else None)
                    seen[bool(caused)] += 1
        self.assertGreater(min(seen.values()), 50)

    def test_a_need_is_what_has_to_stand(self):
        book, web = counts(), sum_web("mul", 2, 1)
        wanted = need(book, web, ("end", "out"))
        copy = Copy(book, web)
        self.assertEqual(copy.hear(wanted[::-1]), wanted)
        self.assertEqual(copy.web().mate(((), "out"))[1], 0)
        for who in wanted:
            less = copy.copied()
            if tried(less.back, who) is None:
                self.assertNotEqual(less.web().mate(((), "out"))[1], 0)

    def test_two_hundred_one_behind_another(self):
        book, web = endless()
        names = [A + (0,) * many for many in range(200)]
        copy = Copy(book, web)
        self.assertEqual(copy.hear(names[::-1]), names)
        self.assertEqual(copy.hear([names[199] + (0,)]), [])
        self.assertEqual(copy.waits(), [names[199] + (0,)])
        with self.assertRaises(Caused) as caught:
            copy.back(names[0])
        self.assertEqual(caught.exception.by, names[1])
        copy.back(names[199])
        self.assertEqual(copy.hear([]), [])
        self.assertEqual(copy.meet(names[199]), [names[199]])


class Kept(unittest.TestCase):
    def test_what_is_handed_in_stays(self):
        book, web = fork()
        texts = web_text(web)
        copy = Copy(book, web)
        names = whos("a.0 z c a c")
        copy.hear(names)
        self.assertEqual(names, whos("a.0 z c a c"))
        copy.meet_all()
        copy.back(("e",))
        self.assertEqual((web_text(web), web_text(copy.first())), (texts, texts))
        self.assertEqual((book, web), fork())

    def test_what_is_done_to_it_later_changes_nothing(self):
        copy = Copy(*fork())
        names = whos("a z")
        copy.hear(names)
        ahead = state(copy)
        names.append(("c",))
        names.clear()
        self.assertEqual(state(copy), ahead)

    def test_lists_that_are_told_may_be_changed(self):
        copy = Copy(*fork())
        told = [copy.hear(whos("a z")), copy.meet(("c",)), copy.meet_all(), copy.heap(), copy.waits(),
                copy.common(copy),
                copy.copied().heap(), copy.pour(copy)]
        copy.back(("e",))
        ahead = state(copy)
        for row in [*told, copy.ready()]:
            row.append(None)
            row.clear()
        self.assertEqual(state(copy), ahead)
        self.assertIsNot(copy.heap(), copy.heap())

    def test_a_web_that_was_told_stays(self):
        copy = Copy(*fork())
        web = copy.web()
        text = web_text(web)
        copy.meet_all()
        self.assertEqual(web_text(web), text)
        self.assertNotEqual(copy.web(), web)


if __name__ == "__main__":
    unittest.main()
